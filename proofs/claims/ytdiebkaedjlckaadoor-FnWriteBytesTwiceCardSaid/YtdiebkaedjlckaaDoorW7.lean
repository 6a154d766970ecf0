/- The arguments of WriteBytes and of WriteLines, drawn. -/
import Derived.Test.YtdiebkaedjlckaaDoorW3
namespace Go.Proofs.YtdiebkaedjlckaaDoor
open Go.ChangeShapes Go.WideShapes Go.ChangeAt Go.RowKit
set_option linter.unusedSimpArgs false
set_option linter.unusedVariables false
set_option maxRecDepth 100000

/-- A writer and bytes in new memory, drawn. -/
def DrawnRL (w : World) (e : Ending) (w' : World) : Prop := ∃ A n c A' n' c' A2 n2 c2 D S R p q z AL nL cL L, e = .returned (.tuple #[.agg #[.slice (A) n c, .int .i64 (p), .slice (A') n' c', .int .i64 (q), .slice (A2) n2 c2, .int .i64 (z)], .slice AL nL cL]) ∧ RdrX w w' A n c A' n' c' A2 n2 c2 D S R p q z ∧ nL ≤ cL ∧ nL ≤ 61 ∧ (∀ x ∈ L, -1 ≤ x ∧ x ≤ 256) ∧ Ints w' w.heap.size w'.heap.size AL nL L
set_option maxHeartbeats 4000000 in
theorem DrawWriteBytes_any {A : Option Addr} {n c : Nat} {w : World} (h : BytesIn w w.heap.size A n) (hn : n ≤ 1048576) (hnc : n ≤ c) : Calls Tryd.prog 36 #[.slice A n c] w (DrawnRL w) := by
  have R0 := Lib.hid (Box.new w 30 [.slice none 0 0, .int .i64 0, .slice none 0 0, .int .i64 0, .slice none 0 0, .int .i64 0])
  go_enter Tryd.func36, Tryd.ntmps36
  go_wp2_with fail
  refine (newChooser_any (h.allocR _) hn hnc).mono ?_
  rintro e w1 ⟨rfl, hch, hb⟩
  (try simp only [World.size_alloc, World.size_setCell, World.size_drew] at hch hb)
  have HC := Lib.hid hch
  have hg := hch.lt
  have HB : Hid (Below w.heap.size w w1) := below_step hb (by go_grown) (by omega)
  have R1 := Lib.hid (R0.out.below hb (by omega))
  have z1 := HB.out.size
  clear hch hb R0
  go_wp2_with fail
  refine (someWriter_any HC.out (by omega)).mono ?_
  rintro e w2 ⟨A, n, c, A', n', c', A2, n2, c2, D, S, R, p, q, z, M, rfl, ⟨hc, hc'⟩, ⟨hn, hn', hn2⟩, hp, hq, hz, hM0, hM1, hD, hS, hB, hch, ht⟩
  have s2 := ht.size
  have D2 := Lib.hid hD; have S2 := Lib.hid hS; have B2 := Lib.hid hB; have C2 := Lib.hid hch
  have R2 := Lib.hid (R1.out.turn ht (by omega) (by omega)); have E2 : Hid (Below w.heap.size w w2) := HB.out.trans (ht.below (by omega) (by omega))
  clear hD hS hB hch ht HC R1 HB
  go_wp2_with fail
  refine (anyBytes_any C2.out (by omega)).mono ?_
  rintro e w3 ⟨v, L, rfl, ⟨hL1, hL2⟩, hown, hch, ht⟩
  obtain ⟨AL, cL, rfl, hcL, hI⟩ := hown.ints (fun x hx => by have := hL2 x hx; unfold okInt; omega)
  have LI := Lib.hid hI
  have HL2 := Lib.hid hL2
  have hlo : w.heap.size < w2.heap.size := by omega
  clear hown hI hL2
  have D3 := Lib.hid (D2.out.turn ht (by omega) (by omega)); have S3 := Lib.hid (S2.out.turn ht (by omega) (by omega)); have B3 := Lib.hid (B2.out.turn ht (by omega) (by omega)); have R3 := Lib.hid (R2.out.turn ht (by omega) (by omega)); have E3 : Hid (Below w.heap.size w w3) := E2.out.trans (ht.below (by omega) (by omega)); have s3 := ht.size; have C3 := Lib.hid hch
  clear D2 S2 B2 R2 E2 C2 hch ht
  have r0 := (R3.out.2 0 _ rfl).1; have r1 := (R3.out.2 1 _ rfl).1; have r2 := (R3.out.2 2 _ rfl).1; have r3 := (R3.out.2 3 _ rfl).1; have r4 := (R3.out.2 4 _ rfl).1; have r5 := (R3.out.2 5 _ rfl).1
  have g0 := (R3.out.2 0 _ rfl).2; have g1 := (R3.out.2 1 _ rfl).2; have g2 := (R3.out.2 2 _ rfl).2; have g3 := (R3.out.2 3 _ rfl).2; have g4 := (R3.out.2 4 _ rfl).2; have g5 := (R3.out.2 5 _ rfl).2
  go_wp2
  refine bodyPost_ret (v := .tuple #[.agg #[.slice (A) n c, .int .i64 (p), .slice (A') n' c', .int .i64 (q), .slice (A2) n2 c2, .int .i64 (z)], .slice AL L.length cL]) (by simp [results, Tryd.results36, go_sem, r0, r1, r2, r3, r4, r5, g0, g1, g2, g3, g4, g5]) rfl ?_
  refine ⟨A, n, c, A', n', c', A2, n2, c2, D, S, R, p, q, z, AL, L.length, cL, L, rfl, ⟨⟨hc, hc', B3.out.cap⟩, ⟨hn, hn', hn2⟩, hp, hq, hz, ?_, ?_, ?_, ?_⟩, hcL, hL1, HL2.out, ?_⟩
  · (repeat (with_reducible refine below_set ?_ (by omega) _))
    exact E3.out
  · simp only [World.size_setCell]
    refine Ints.more (lo := w1.heap.size) (hi := M) ?_ (by omega) (by omega)
    (repeat (with_reducible refine Ints.set_ ?_ (by omega) _))
    exact D3.out
  · simp only [World.size_setCell]
    refine Ints.more (lo := w1.heap.size) (hi := M) ?_ (by omega) (by omega)
    (repeat (with_reducible refine Ints.set_ ?_ (by omega) _))
    exact S3.out
  · simp only [World.size_setCell]
    refine Ints.more (lo := M) (hi := w2.heap.size) ?_ (by omega) (by omega)
    (repeat (with_reducible refine Ints.set_ ?_ (by omega) _))
    exact B3.out.ints
  · simp only [World.size_setCell]
    refine Ints.more (lo := w2.heap.size) (hi := w3.heap.size) ?_ (by omega) (Nat.le_refl _)
    (repeat (with_reducible refine Ints.set_ ?_ (by omega) _))
    exact LI.out
set_option maxHeartbeats 1000000 in
theorem DrawWriteLines_any {A : Option Addr} {n c : Nat} {w : World} (h : BytesIn w w.heap.size A n) (hn : n ≤ 1048576) (hnc : n ≤ c) : Calls Tryd.prog 43 #[.slice A n c] w (DrawnRL w) := by
  have R0 := Lib.hid (Box.new w 30 [.slice none 0 0, .int .i64 0, .slice none 0 0, .int .i64 0, .slice none 0 0, .int .i64 0])
  go_enter Tryd.func43, Tryd.ntmps43
  go_wp2_with fail
  refine (DrawWriteBytes_any (h.allocR _) hn hnc).mono ?_
  rintro e w1 ⟨A, n, c, A', n', c', A2, n2, c2, D, S, R, p, q, z, AL, nL, cL, L, rfl, ⟨hc, hn, hp, hq, hz, hb, hd, hd', hr⟩, hcL, hL1, hL2, hl⟩
  (try simp only [World.size_alloc, World.size_setCell, World.size_drew] at hb hd hd' hr hl)
  have HB := Lib.hid hb
  have s1 := HB.out.size
  (try simp only [World.size_alloc, World.size_setCell, World.size_drew] at s1)
  have R1 := Lib.hid (R0.out.below hb (by omega))
  have D1 := Lib.hid hd; have S1 := Lib.hid hd'; have B1 := Lib.hid hr; have L1 := Lib.hid hl; have HL2 := Lib.hid hL2
  have E1 : Hid (Below w.heap.size w w1) := below_step hb (by go_grown) (by omega)
  clear hb hd hd' hr hl hL2 HB R0
  have r0 := (R1.out.2 0 _ rfl).1; have r1 := (R1.out.2 1 _ rfl).1; have r2 := (R1.out.2 2 _ rfl).1; have r3 := (R1.out.2 3 _ rfl).1; have r4 := (R1.out.2 4 _ rfl).1; have r5 := (R1.out.2 5 _ rfl).1
  have g0 := (R1.out.2 0 _ rfl).2; have g1 := (R1.out.2 1 _ rfl).2; have g2 := (R1.out.2 2 _ rfl).2; have g3 := (R1.out.2 3 _ rfl).2; have g4 := (R1.out.2 4 _ rfl).2; have g5 := (R1.out.2 5 _ rfl).2
  go_wp2
  refine bodyPost_ret (v := .tuple #[.agg #[.slice (A) n c, .int .i64 (p), .slice (A') n' c', .int .i64 (q), .slice (A2) n2 c2, .int .i64 (z)], .slice AL nL cL]) (by simp [results, Tryd.results43, go_sem, r0, r1, r2, r3, r4, r5, g0, g1, g2, g3, g4, g5]) rfl ?_
  refine ⟨A, n, c, A', n', c', A2, n2, c2, D, S, R, p, q, z, AL, nL, cL, L, rfl, ⟨hc, hn, hp, hq, hz, ?_, ?_, ?_, ?_⟩, hcL, hL1, HL2.out, ?_⟩
  · (repeat (with_reducible refine below_set ?_ (by omega) _))
    exact E1.out
  all_goals
    simp only [World.size_setCell]
    refine Ints.more (lo := w.heap.size + 1) (hi := w1.heap.size) ?_ (by omega) (Nat.le_refl _)
    (repeat (with_reducible refine Ints.set_ ?_ (by omega) _))
    first | exact D1.out | exact S1.out | exact B1.out | exact L1.out
end Go.Proofs.YtdiebkaedjlckaaDoor
