/- Contracts of the drawing of a device and a buffer's size. -/
import Derived.Test.YtdiebkaedjlckaaK1
namespace Go.Proofs.Ytdiebkaedjlckaa
open Go.ChangeShapes Go.WideShapes Go.ChangeAt Go.RowKit
set_option linter.unusedSimpArgs false
set_option linter.unusedVariables false
set_option maxRecDepth 10000


set_option maxHeartbeats 2000000 in
theorem DrawNewReader_any {A : Option Addr} {n c : Nat} {w : World} (h : BytesIn w w.heap.size A n) (hn : n ≤ 1048576) (hnc : n ≤ c) : Calls Try.prog 31 #[.slice A n c] w (DrawnDI w) := by
  have R0 := Lib.hid (Box.new w 25 [.slice none 0 0, .int .i64 0, .slice none 0 0, .int .i64 0])
  go_enter Try.func31, Try.ntmps31
  go_wp2_with fail
  refine (newChooser_any (h.alloc _) hn hnc).mono ?_
  rintro e w1 ⟨rfl, hch, hb⟩
  (try simp only [World.size_alloc, World.size_setCell, World.size_drew] at hch hb)
  have HC := Lib.hid hch
  have hg := hch.lt
  have HB : Hid (Below w.heap.size w w1) := below_step hb (by go_grown) (by omega)
  have R1 := Lib.hid (R0.out.below hb (by omega))
  clear hch hb R0
  go_wp2_with fail
  refine (someDevice_any HC.out (by omega)).mono ?_
  rintro e w2 ⟨A, n, c, A', n', c', D, S, p, q, rfl, hn, hn', hn1, hn2, hD, hS, hp, hq, hown, hown', _, hch, ht⟩
  subst hn hn'
  have HC2 := Lib.hid hch
  have HX : Hid (∀ w3, Turn w2.heap.size (w.heap.size + 1) w2 w3 → DrawX w1.heap.size w w3 A D.length c A' S.length c' D S p q) := fun w3 ht2 => DrawX.of HB.out (by omega) hg (Nat.le_refl _) hown hown' ht ht2 hD hS ⟨hn1, hn2⟩ hp hq
  have R2 := Lib.hid (R1.out.turn ht (by omega) (by omega))
  have s2 := ht.size
  clear hD hS hown hown' ht hch R1
  go_wp2_with fail
  refine (one_lit [4, 1, 16, 0, 17] HC2.out (by omega) rfl rfl rfl (by decide) (by decide) (by decide)).mono ?_
  rintro e w3 ⟨z, hz, rfl, _, ht⟩
  have R3 := Lib.hid (R2.out.turn ht (by omega) (by omega))
  have HX3 := Lib.hid (HX.out _ ht)
  clear ht R2 HX
  have r0 := (R3.out.2 0 _ rfl).1; have r1 := (R3.out.2 1 _ rfl).1; have r2 := (R3.out.2 2 _ rfl).1; have r3 := (R3.out.2 3 _ rfl).1
  have g0 := (R3.out.2 0 _ rfl).2; have g1 := (R3.out.2 1 _ rfl).2; have g2 := (R3.out.2 2 _ rfl).2; have g3 := (R3.out.2 3 _ rfl).2
  go_wp2
  refine bodyPost_ret (v := .tuple #[.agg #[.slice (A) D.length c, .int .i64 (p), .slice (A') S.length c', .int .i64 (q)], .int .i64 z]) (by simp [results, Try.results31, go_sem, r0, r1, r2, r3, g0, g1, g2, g3]) rfl ?_
  exact ⟨_, _, _, _, _, _, D, S, p, q, z, rfl, ((((HX3.out.set_ (by omega) (by omega) _).set_ (by omega) (by omega) _).set_ (by omega) (by omega) _).set_ (by omega) (by omega) _).down (by omega), by simp at hz; omega⟩
end Go.Proofs.Ytdiebkaedjlckaa
