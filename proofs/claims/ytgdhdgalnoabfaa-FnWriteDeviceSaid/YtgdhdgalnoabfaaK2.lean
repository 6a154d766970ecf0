/- Contracts of the drawing of a law's arguments: bytes and a script; a device and bytes; a device and where to seek to. -/
import Derived.Test.YtgdhdgalnoabfaaK1
namespace Go.Proofs.Ytgdhdgalnoabfaa
open Go.ChangeShapes Go.WideShapes Go.ChangeAt Go.RowKit
set_option linter.unusedSimpArgs false
set_option linter.unusedVariables false

def DrawnDS (w : World) (e : Ending) (w' : World) : Prop := ∃ A n c A' n' c' D S p q zo zw, e = .returned (.tuple #[.agg #[.slice (A) n c, .int .i64 (p), .slice (A') n' c', .int .i64 (q)], .int .i64 zo, .int .i64 zw]) ∧ DrawD w w' A n c A' n' c' D S p q ∧ (-61 ≤ zo ∧ zo ≤ 61) ∧ (-1 ≤ zw ∧ zw ≤ 3)
def DrawnDL (w : World) (e : Ending) (w' : World) : Prop := ∃ A n c A' n' c' D S p q A1 n1 c1 L, e = .returned (.tuple #[.agg #[.slice (A) n c, .int .i64 (p), .slice (A') n' c', .int .i64 (q)], .slice A1 n1 c1]) ∧ DrawD w w' A n c A' n' c' D S p q ∧ n1 ≤ c1 ∧ Ints w' w.heap.size w'.heap.size A1 n1 L ∧ n1 ≤ 61
def DrawnLL (w : World) (e : Ending) (w' : World) : Prop := ∃ A n c A' n' c' D S, e = .returned (.tuple #[.slice A n c, .slice A' n' c']) ∧ (n ≤ c ∧ n' ≤ c') ∧ Below w.heap.size w w' ∧ Ints w' w.heap.size w'.heap.size A n D ∧ Ints w' w.heap.size w'.heap.size A' n' S ∧ (n ≤ 61 ∧ n' ≤ 7)

set_option maxHeartbeats 1000000 in
theorem DrawWriteDevice_any {A : Option Addr} {n c : Nat} {w : World} (h : BytesIn w w.heap.size A n) (hn : n ≤ 1048576) (hnc : n ≤ c) : Calls Try.prog 5 #[.slice A n c] w (DrawnDL w) := by
  have R0 := Lib.hid (Box.new w 25 [.slice none 0 0, .int .i64 0, .slice none 0 0, .int .i64 0])
  go_enter Try.func5, Try.ntmps5
  go_wp2_with fail
  refine (newChooser_any (h.alloc _) hn hnc).mono ?_
  rintro e w1 ⟨rfl, hch, hb⟩
  (try simp only [World.size_alloc, World.size_setCell, World.size_drew] at hch hb)
  have HC := Lib.hid hch
  have hg := hch.lt
  have HB : Hid (Below w.heap.size w w1) := below_step hb (by go_grown) (by omega)
  have R1 := Lib.hid (R0.out.below hb (by omega))
  clear hch hb R0
  go_wp2_with fail
  refine (someDevice_any HC.out (by omega)).mono ?_
  rintro e w2 ⟨A, n, c, A', n', c', D, S, p, q, rfl, hn, hn', hn1, hn2, hD, hS, hp, hq, hown, hown', _, hch, ht⟩
  subst hn hn'
  have HC2 := Lib.hid hch
  have HX : Hid (∀ w3, Turn w2.heap.size (w.heap.size + 1) w2 w3 → DrawX w1.heap.size w w3 A D.length c A' S.length c' D S p q) := fun w3 ht2 => DrawX.of HB.out (by omega) hg (Nat.le_refl _) hown hown' ht ht2 hD hS ⟨hn1, hn2⟩ hp hq
  have R2 := Lib.hid (R1.out.turn ht (by omega) (by omega))
  clear R1
  have s2 := ht.size
  clear hD hS hown hown' ht hch
  go_wp2_with fail
  refine (anyBytes_any HC2.out (by omega)).mono ?_
  rintro e w3 ⟨v, xs, rfl, ⟨hl, hxs⟩, hown, _, ht⟩
  obtain ⟨A1, c1, rfl, hc1, hI⟩ := hown.ints (fun x hx => by have := hxs x hx; unfold okInt; omega)
  have R3 := Lib.hid (R2.out.turn ht (by omega) (by omega))
  have HX3 := Lib.hid (HX.out _ ht)
  have HI := Lib.hid hI
  have HLO := Lib.hid (fun k hk => (hown.lt k hk).1)
  clear ht hown hI hxs R2 HX
  have r0 := (R3.out.2 0 _ rfl).1; have r1 := (R3.out.2 1 _ rfl).1; have r2 := (R3.out.2 2 _ rfl).1; have r3 := (R3.out.2 3 _ rfl).1
  have g0 := (R3.out.2 0 _ rfl).2; have g1 := (R3.out.2 1 _ rfl).2; have g2 := (R3.out.2 2 _ rfl).2; have g3 := (R3.out.2 3 _ rfl).2
  go_wp2
  refine bodyPost_ret (v := .tuple #[.agg #[.slice (A) D.length c, .int .i64 (p), .slice (A') S.length c', .int .i64 (q)], .slice A1 xs.length c1]) (by simp [results, Try.results5, go_sem, r0, r1, r2, r3, g0, g1, g2, g3]) rfl ?_
  refine ⟨_, _, _, _, _, _, D, S, p, q, _, _, _, xs, rfl, ((((HX3.out.set_ (by omega) (by omega) _).set_ (by omega) (by omega) _).set_ (by omega) (by omega) _).set_ (by omega) (by omega) _).down (by omega), hc1, ?_, hl⟩
  simp only [World.size_setCell]
  refine Ints.more (lo := w2.heap.size) (hi := w3.heap.size) ?_ (by omega) (Nat.le_refl _)
  (repeat (with_reducible refine Ints.set_ ?_ (by omega) _))
  exact HI.out
end Go.Proofs.Ytgdhdgalnoabfaa
