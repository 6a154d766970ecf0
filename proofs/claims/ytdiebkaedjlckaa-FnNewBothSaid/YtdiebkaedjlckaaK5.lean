/- Contracts of the drawing of a device and a file's buffer's size. -/
import Derived.Test.YtdiebkaedjlckaaK3
namespace Go.Proofs.Ytdiebkaedjlckaa
open Go.ChangeShapes Go.WideShapes Go.ChangeAt Go.RowKit
set_option linter.unusedSimpArgs false
set_option linter.unusedVariables false
set_option maxRecDepth 10000


set_option maxHeartbeats 1000000 in
theorem DrawNewBoth_any {A : Option Addr} {n c : Nat} {w : World} (h : BytesIn w w.heap.size A n) (hn : n ≤ 1048576) (hnc : n ≤ c) : Calls Try.prog 8 #[.slice A n c] w (DrawnDI w) := by
  have R0 := Lib.hid (Box.new w 25 [.slice none 0 0, .int .i64 0, .slice none 0 0, .int .i64 0])
  go_enter Try.func8, Try.ntmps8
  go_wp2_with fail
  refine (DrawNewReader_any (h.alloc _) hn hnc).mono ?_
  rintro e w1 ⟨A, n, c, A', n', c', D, S, p, q, z, rfl, ⟨hc, hb, hD, hS, hm⟩, hz⟩
  (try simp only [World.size_alloc, World.size_setCell, World.size_drew] at hb hD hS)
  have s1 := hb.size
  (try simp only [World.size_alloc, World.size_setCell, World.size_drew] at s1)
  have R1 := Lib.hid (R0.out.below hb (by omega))
  have HB := Lib.hid hb
  have HD := Lib.hid hD
  have HS := Lib.hid hS
  clear hb hD hS
  have r0 := (R1.out.2 0 _ rfl).1; have r1 := (R1.out.2 1 _ rfl).1; have r2 := (R1.out.2 2 _ rfl).1; have r3 := (R1.out.2 3 _ rfl).1
  have g0 := (R1.out.2 0 _ rfl).2; have g1 := (R1.out.2 1 _ rfl).2; have g2 := (R1.out.2 2 _ rfl).2; have g3 := (R1.out.2 3 _ rfl).2
  go_wp2
  refine bodyPost_ret (v := .tuple #[.agg #[.slice (A) n c, .int .i64 (p), .slice (A') n' c', .int .i64 (q)], .int .i64 z]) (by simp [results, Try.results8, go_sem, r0, r1, r2, r3, g0, g1, g2, g3]) rfl ?_
  refine ⟨_, _, _, _, _, _, D, S, p, q, z, rfl, ⟨hc, ?_, ?_, ?_, hm⟩, hz⟩
  · (repeat (with_reducible refine below_set ?_ (by omega) _))
    exact below_step HB.out (by go_grown) (by omega)
  · simp only [World.size_setCell]
    refine Ints.more (lo := w.heap.size + 1) (hi := w1.heap.size) ?_ (by omega) (Nat.le_refl _)
    (repeat (with_reducible refine Ints.set_ ?_ (by omega) _))
    exact HD.out
  · simp only [World.size_setCell]
    refine Ints.more (lo := w.heap.size + 1) (hi := w1.heap.size) ?_ (by omega) (Nat.le_refl _)
    (repeat (with_reducible refine Ints.set_ ?_ (by omega) _))
    exact HS.out
end Go.Proofs.Ytdiebkaedjlckaa
