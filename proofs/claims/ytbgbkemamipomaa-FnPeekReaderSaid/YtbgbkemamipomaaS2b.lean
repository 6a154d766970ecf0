/- Contracts of the model's tellReader and TellReader. -/
import Derived.Test.YtbgbkemamipomaaC2b
import Derived.Test.YtbgbkemamipomaaS2a
namespace Go.Proofs.Ytbgbkemamipomaa
open Go.ChangeShapes Go.WideShapes Go.ChangeAt Go.RowKit
set_option linter.unusedSimpArgs false
set_option linter.unusedVariables false

set_option maxHeartbeats 1000000 in
theorem sTellReader0_any {A A' A2 : Option Addr} {n c n' c' n2 c2 : Nat} {p q z : Int} {w : World} (hp : -1000 ≤ p ∧ p ≤ 1000) (hn2 : n2 ≤ 1000) :
    Calls Try.prog 74 #[.agg #[.slice (A) n c, .int .i64 (p), .slice (A') n' c', .int .i64 (q), .slice (A2) n2 c2, .int .i64 (z)]] w (IntB (p - (n2 : Int)) w) := by
  have hw : IntKind.i64.wrap (p - (n2 : Int)) = p - (n2 : Int) := IntWalk.i64_in _ (by omega)
  go_enter Try.func74, Try.ntmps74
  go_wp2
  go_ret
  exact ⟨rfl, by go_grown⟩

set_option maxHeartbeats 1000000 in
theorem STellReader_x {A A' A2 : Option Addr} {n c n' c' n2 c2 : Nat} {D S R : List Int} {p q z : Int} {w : World} {L L' B B' M C : Nat} (h : Ints w L B A n D) (h' : Ints w L' B' A' n' S) (g : Ints w M C A2 n2 R) (hB : B ≤ w.heap.size) (hB' : B' ≤ w.heap.size) (hC : C ≤ w.heap.size) (_hnc : n ≤ c) :
    Calls Try.prog 41 #[.agg #[.slice (A) n c, .int .i64 (p), .slice (A') n' c', .int .i64 (q), .slice (A2) n2 c2, .int .i64 (z)]] w (IntB (tellOut D p S q R z) w) := by
  have HG := Lib.hid g.len
  have H1 := Lib.hid (h.alloc hB (.cells #[.slice (A) n c, .int .i64 (p), .slice (A') n' c', .int .i64 (q), .slice (A2) n2 c2, .int .i64 (z)] 27))
  have H2 := Lib.hid (h'.alloc hB' (.cells #[.slice (A) n c, .int .i64 (p), .slice (A') n' c', .int .i64 (q), .slice (A2) n2 c2, .int .i64 (z)] 27))
  have G1 := Lib.hid (g.alloc hC (.cells #[.slice (A) n c, .int .i64 (p), .slice (A') n' c', .int .i64 (q), .slice (A2) n2 c2, .int .i64 (z)] 27))
  have X0 := Lib.hid (Box.new w 27 [.slice (A) n c, .int .i64 (p), .slice (A') n' c', .int .i64 (q), .slice (A2) n2 c2, .int .i64 (z)])
  clear h h' g
  go_enter Try.func41, Try.ntmps41
  go_wp2_with fail
  refine (sValidReader0_any H1.out H2.out G1.out (by first | omega | (simp; omega) | (simp; done)) (by first | omega | (simp; omega) | (simp; done)) (by first | omega | (simp; omega) | (simp; done))).mono ?_
  rintro e w1 ⟨rfl, hb1⟩
  (try simp only [World.size_alloc, World.size_setCell, World.size_drew] at hb1)
  have E1 : Hid (Below w.heap.size w w1) := below_step hb1 (by go_grown) (by omega)
  have s1 := hb1.size
  (try simp only [World.size_alloc, World.size_setCell, World.size_drew] at s1)
  have X1 := Lib.hid (X0.out.below hb1 (by omega))
  clear hb1 H1 H2 G1 X0
  have x0 := (X1.out.2 0 _ rfl).1; have x1 := (X1.out.2 1 _ rfl).1; have x2 := (X1.out.2 2 _ rfl).1; have x3 := (X1.out.2 3 _ rfl).1; have x4 := (X1.out.2 4 _ rfl).1; have x5 := (X1.out.2 5 _ rfl).1
  cases hv : validR D p S q R z
  · have HO : Hid (tellOut D p S q R z = -1) := by show _ = _; simp [tellOut, hv]
    have HV := Lib.hid hv
    clear hv
    go_wp2
    go_ret
    exact ⟨ret_int HO.out.symm, E1.out⟩
  · have HO : Hid (tellOut D p S q R z = p - (n2 : Int)) := by show _ = _; simp [tellOut, hv, HG.out]
    obtain ⟨hvd, hz, hRz, _⟩ := validR_iff.1 hv
    obtain ⟨_, _, _, hp, _⟩ := validD_iff.1 hvd
    have hn16 : n2 ≤ 16 := by have := HG.out; omega
    clear hv hvd
    go_wp2_with fail
    refine (sTellReader0_any (by omega) (by omega)).mono ?_
    rintro e w3 ⟨rfl, hb3⟩
    have HB3 := Lib.hid hb3
    clear hb3
    go_wp2
    go_ret
    exact ⟨ret_int HO.out.symm, below_step HB3.out E1.out (by omega)⟩
end Go.Proofs.Ytbgbkemamipomaa
