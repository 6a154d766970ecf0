/- Contracts of a reader's answer out of the reader at work; NewReader. -/
import Derived.Test.YtjilbjkmnmbfeaaC2b
import Derived.Test.YtjilbjkmnmbfeaaL5
namespace Go.Proofs.Ytjilbjkmnmbfeaa
open Go.ChangeShapes Go.WideShapes Go.ChangeAt Go.RowKit
set_option linter.unusedSimpArgs false
set_option linter.unusedVariables false

/-- A reader's numbers, as one. -/
structure Rv where
  d : List Int
  p : Int
  s : List Int
  q : Int
  r : List Int
  z : Int
def Rv.zero : Rv := ⟨[], 0, [], 0, [], 0⟩
/-- A reader and a bool, in new memory. -/
def Post2R (o : Rv × Bool) (w : World) (e : Ending) (w' : World) : Prop :=
  ∃ A n c A' n' c' A2 n2 c2, e = .returned (.tuple #[.agg #[.slice (A) n c, .int .i64 (o.1.p), .slice (A') n' c', .int .i64 (o.1.q), .slice (A2) n2 c2, .int .i64 (o.1.z)], .bool o.2]) ∧ (n ≤ c ∧ n' ≤ c' ∧ n2 ≤ c2) ∧ Below w.heap.size w w' ∧ RdrIn w' w.heap.size w'.heap.size A n A' n' A2 n2 o.1.d o.1.p o.1.s o.1.q o.1.r o.1.z
theorem Post2R.zero {w w' : World} (hb : Below w.heap.size w w') : Post2R (Rv.zero, false) w (.returned (.tuple #[.agg #[.slice none 0 0, .int .i64 0, .slice none 0 0, .int .i64 0, .slice none 0 0, .int .i64 0], .bool false])) w' :=
  ⟨none, 0, 0, none, 0, 0, none, 0, 0, rfl, ⟨Nat.le_refl _, Nat.le_refl _, Nat.le_refl _⟩, hb, DevIn.zero _ _ _, (Ints.nil _ _ _ 0 _).1, fun h => absurd h (by omega), fun h => absurd h (by omega), by unfold okInt; show _ ≤ (0 : Int) ∧ (0 : Int) ≤ _; omega⟩
theorem keep0 {w : World} {b o : Nat} {v : Value} (h : w.cell? ⟨b, o, none⟩ = some v) : w.drew.cell? ⟨b, o, none⟩ = some v := h
theorem keep6 {w : World} {b c o : Nat} {v u0 u1 u2 u3 u4 u5 : Value} (h : w.cell? ⟨b, o, none⟩ = some v) (hne : b ≠ c) :
    ((((((w.setCell ⟨c, 0, none⟩ u0).setCell ⟨c, 1, none⟩ u1).setCell ⟨c, 2, none⟩ u2).setCell ⟨c, 3, none⟩ u3).setCell ⟨c, 4, none⟩ u4).setCell ⟨c, 5, none⟩ u5).drew.cell? ⟨b, o, none⟩ = some v := by
  refine (World.cell?_of_block (w := w) (a := ⟨b, o, none⟩) ?_).trans h
  rw [show ∀ W : World, W.drew.heap = W.heap from fun _ => rfl, Below.heap_setCell _ ⟨c, 5, none⟩ u5 b hne, Below.heap_setCell _ ⟨c, 4, none⟩ u4 b hne, Below.heap_setCell _ ⟨c, 3, none⟩ u3 b hne, Below.heap_setCell _ ⟨c, 2, none⟩ u2 b hne, Below.heap_setCell _ ⟨c, 1, none⟩ u1 b hne, Below.heap_setCell _ ⟨c, 0, none⟩ u0 b hne]

set_option maxHeartbeats 1000000 in
theorem reader_any {A A' A2 : Option Addr} {n c n' c' n2 c2 b : Nat} {p q z : Int} {w : World} (hX : Box w b [.slice (A) n c, .int .i64 (p), .slice (A') n' c', .int .i64 (q), .slice (A2) n2 c2, .int .i64 (z)]) :
    Calls Try.prog 78 #[.pointer (some ⟨b, 0, none⟩)] w (fun e w' => e = .returned (.agg #[.slice (A) n c, .int .i64 (p), .slice (A') n' c', .int .i64 (q), .slice (A2) n2 c2, .int .i64 (z)]) ∧ Below w.heap.size w w') := by
  have hlt := hX.lt
  have hne1 : b ≠ w.heap.size := by omega
  have HX := Lib.hid (hX.alloc (.cells #[.slice none 0 0, .int .i64 0, .slice none 0 0, .int .i64 0, .slice none 0 0, .int .i64 0] 52))
  have R0 := Lib.hid (Box.new w 52 [.slice none 0 0, .int .i64 0, .slice none 0 0, .int .i64 0, .slice none 0 0, .int .i64 0])
  have x0 := (HX.out.2 0 _ rfl).1; have x1 := (HX.out.2 1 _ rfl).1; have x2 := (HX.out.2 2 _ rfl).1; have x3 := (HX.out.2 3 _ rfl).1; have x4 := (HX.out.2 4 _ rfl).1; have x5 := (HX.out.2 5 _ rfl).1
  have r0 := (R0.out.2 0 _ rfl).1; have r1 := (R0.out.2 1 _ rfl).1; have r2 := (R0.out.2 2 _ rfl).1; have r3 := (R0.out.2 3 _ rfl).1; have r4 := (R0.out.2 4 _ rfl).1; have r5 := (R0.out.2 5 _ rfl).1
  have g0 := (R0.out.2 0 _ rfl).2; have g1 := (R0.out.2 1 _ rfl).2; have g2 := (R0.out.2 2 _ rfl).2; have g3 := (R0.out.2 3 _ rfl).2; have g4 := (R0.out.2 4 _ rfl).2; have g5 := (R0.out.2 5 _ rfl).2
  have E0 : Hid (Below w.heap.size w (w.alloc (.cells #[.slice none 0 0, .int .i64 0, .slice none 0 0, .int .i64 0, .slice none 0 0, .int .i64 0] 52))) := (by go_grown : Below w.heap.size w (w.alloc _))
  have s0 : w.heap.size < (w.alloc (.cells #[.slice none 0 0, .int .i64 0, .slice none 0 0, .int .i64 0, .slice none 0 0, .int .i64 0] 52)).heap.size := by simp
  go_enter Try.func78, Try.ntmps78
  go_wp2
  generalize w.alloc (.cells #[.slice none 0 0, .int .i64 0, .slice none 0 0, .int .i64 0, .slice none 0 0, .int .i64 0] 52) = w0 at *
  go_region_held3 (fun w' => w'.cell? ⟨b, 0, none⟩ = some (.slice A n c) ∧ w'.cell? ⟨b, 1, none⟩ = some (.int .i64 p) ∧ w'.cell? ⟨b, 2, none⟩ = some (.slice A' n' c') ∧ w'.cell? ⟨b, 3, none⟩ = some (.int .i64 q) ∧ w'.cell? ⟨b, 4, none⟩ = some (.slice A2 n2 c2) ∧ w'.cell? ⟨b, 5, none⟩ = some (.int .i64 z)) (refine ⟨?_, ?_, ?_, ?_, ?_, ?_⟩ <;> first | (with_reducible assumption) | (with_reducible exact keep0 x0) | (with_reducible exact keep0 x1) | (with_reducible exact keep0 x2) | (with_reducible exact keep0 x3) | (with_reducible exact keep0 x4) | (with_reducible exact keep0 x5) | (with_reducible exact keep6 x0 hne1) | (with_reducible exact keep6 x1 hne1) | (with_reducible exact keep6 x2 hne1) | (with_reducible exact keep6 x3 hne1) | (with_reducible exact keep6 x4 hne1) | (with_reducible exact keep6 x5 hne1)) (fail)
  go_wp2
  refine bodyPost_ret (v := .agg #[.slice (A) n c, .int .i64 (p), .slice (A') n' c', .int .i64 (q), .slice (A2) n2 c2, .int .i64 (z)]) (by simp [results, Try.results78, go_sem, r0, r1, r2, r3, r4, r5, g0, g1, g2, g3, g4, g5]) rfl ?_
  refine ⟨rfl, ?_⟩
  repeat (first | (with_reducible refine below_set ?_ (by omega) _) | (with_reducible refine Below.drew ?_))
  exact E0.out

def newROut (D : List Int) (p : Int) (S : List Int) (q z : Int) : Rv × Bool := if validR D p S q [] z then (⟨D, p, S, q, [], z⟩, true) else (.zero, false)
theorem newROut_le (D : List Int) (p : Int) (S : List Int) (q z : Int) : (newROut D p S q z).1.d.length ≤ 60 ∧ (newROut D p S q z).1.s.length ≤ 60 ∧ (newROut D p S q z).1.r.length ≤ 60 := by
  unfold newROut
  split
  · obtain ⟨hv, _⟩ := validR_iff.1 ‹_›
    obtain ⟨hb, hs, _⟩ := validD_iff.1 hv
    exact ⟨bytesB_le hb, by show S.length ≤ 60; omega, by show ([] : List Int).length ≤ 60; simp⟩
  · exact ⟨by decide, by decide, by decide⟩

set_option maxHeartbeats 2000000 in
theorem NewReader_any {A A' : Option Addr} {n c n' c' : Nat} {D S : List Int} {p q z : Int} {w : World} {L L' B B' : Nat} (h : Ints w L B A n D) (h' : Ints w L' B' A' n' S) (hB : B ≤ w.heap.size) (hB' : B' ≤ w.heap.size) (hnc : n ≤ c) :
    Calls Try.prog 48 #[.agg #[.slice (A) n c, .int .i64 (p), .slice (A') n' c', .int .i64 (q)], .int .i64 z] w (Post2R (newROut D p S q z) w) := by
  have HL := Lib.hid h.len
  have HL' := Lib.hid h'.len
  have H1 : Hid (Ints (((w.alloc (.cells #[.slice (A) n c, .int .i64 (p), .slice (A') n' c', .int .i64 (q)] 27)).alloc (.cells #[.slice none 0 0, .int .i64 0, .slice none 0 0, .int .i64 0, .slice none 0 0, .int .i64 0] 52)).alloc (.cells #[.slice (A) n c, .int .i64 (p), .slice (A') n' c', .int .i64 (q), .slice (none) 0 0, .int .i64 (z)] 52)) L B A n D) := ((h.alloc hB _).alloc (by first | omega | (simp; omega) | (simp; done)) _).alloc (by first | omega | (simp; omega) | (simp; done)) _
  have H2 : Hid (Ints (((w.alloc (.cells #[.slice (A) n c, .int .i64 (p), .slice (A') n' c', .int .i64 (q)] 27)).alloc (.cells #[.slice none 0 0, .int .i64 0, .slice none 0 0, .int .i64 0, .slice none 0 0, .int .i64 0] 52)).alloc (.cells #[.slice (A) n c, .int .i64 (p), .slice (A') n' c', .int .i64 (q), .slice (none) 0 0, .int .i64 (z)] 52)) L' B' A' n' S) := ((h'.alloc hB' _).alloc (by first | omega | (simp; omega) | (simp; done)) _).alloc (by first | omega | (simp; omega) | (simp; done)) _
  have R0 : Hid (Box (((w.alloc (.cells #[.slice (A) n c, .int .i64 (p), .slice (A') n' c', .int .i64 (q)] 27)).alloc (.cells #[.slice none 0 0, .int .i64 0, .slice none 0 0, .int .i64 0, .slice none 0 0, .int .i64 0] 52)).alloc (.cells #[.slice (A) n c, .int .i64 (p), .slice (A') n' c', .int .i64 (q), .slice (none) 0 0, .int .i64 (z)] 52)) (w.heap.size + 1) [.slice none 0 0, .int .i64 0, .slice none 0 0, .int .i64 0, .slice none 0 0, .int .i64 0]) := by
    have hx := (Box.new (w.alloc (.cells #[.slice (A) n c, .int .i64 (p), .slice (A') n' c', .int .i64 (q)] 27)) 52 [.slice none 0 0, .int .i64 0, .slice none 0 0, .int .i64 0, .slice none 0 0, .int .i64 0]).alloc (.cells #[.slice (A) n c, .int .i64 (p), .slice (A') n' c', .int .i64 (q), .slice (none) 0 0, .int .i64 (z)] 52)
    rw [World.size_alloc] at hx
    exact hx
  have V0 : Hid (Box (((w.alloc (.cells #[.slice (A) n c, .int .i64 (p), .slice (A') n' c', .int .i64 (q)] 27)).alloc (.cells #[.slice none 0 0, .int .i64 0, .slice none 0 0, .int .i64 0, .slice none 0 0, .int .i64 0] 52)).alloc (.cells #[.slice (A) n c, .int .i64 (p), .slice (A') n' c', .int .i64 (q), .slice (none) 0 0, .int .i64 (z)] 52)) (w.heap.size + 1 + 1) [.slice (A) n c, .int .i64 (p), .slice (A') n' c', .int .i64 (q), .slice (none) 0 0, .int .i64 (z)]) := by
    have hx := Box.new ((w.alloc (.cells #[.slice (A) n c, .int .i64 (p), .slice (A') n' c', .int .i64 (q)] 27)).alloc (.cells #[.slice none 0 0, .int .i64 0, .slice none 0 0, .int .i64 0, .slice none 0 0, .int .i64 0] 52)) 52 [.slice (A) n c, .int .i64 (p), .slice (A') n' c', .int .i64 (q), .slice (none) 0 0, .int .i64 (z)]
    rw [World.size_alloc, World.size_alloc] at hx
    exact hx
  have E0 : Hid (Below w.heap.size w (((w.alloc (.cells #[.slice (A) n c, .int .i64 (p), .slice (A') n' c', .int .i64 (q)] 27)).alloc (.cells #[.slice none 0 0, .int .i64 0, .slice none 0 0, .int .i64 0, .slice none 0 0, .int .i64 0] 52)).alloc (.cells #[.slice (A) n c, .int .i64 (p), .slice (A') n' c', .int .i64 (q), .slice (none) 0 0, .int .i64 (z)] 52))) := (by go_grown : Below w.heap.size w _)
  have s0 : (((w.alloc (.cells #[.slice (A) n c, .int .i64 (p), .slice (A') n' c', .int .i64 (q)] 27)).alloc (.cells #[.slice none 0 0, .int .i64 0, .slice none 0 0, .int .i64 0, .slice none 0 0, .int .i64 0] 52)).alloc (.cells #[.slice (A) n c, .int .i64 (p), .slice (A') n' c', .int .i64 (q), .slice (none) 0 0, .int .i64 (z)] 52)).heap.size = w.heap.size + 3 := by simp
  clear h h'
  go_enter Try.func48, Try.ntmps48
  go_wp2_with fail
  generalize ((w.alloc (.cells #[.slice (A) n c, .int .i64 (p), .slice (A') n' c', .int .i64 (q)] 27)).alloc (.cells #[.slice none 0 0, .int .i64 0, .slice none 0 0, .int .i64 0, .slice none 0 0, .int .i64 0] 52)).alloc (.cells #[.slice (A) n c, .int .i64 (p), .slice (A') n' c', .int .i64 (q), .slice (none) 0 0, .int .i64 (z)] 52) = w0 at *
  refine (ValidReader_any H1.out H2.out (Ints.nil w0 0 0 0 none).1 (by omega) (by omega) (by omega) hnc).mono ?_
  rintro e w1 ⟨rfl, hb1⟩
  have s1 := hb1.size
  have I1 := Lib.hid (H1.out.below hb1 (by omega))
  have I2 := Lib.hid (H2.out.below hb1 (by omega))
  have R1 := Lib.hid (R0.out.below hb1 (by omega))
  have V1 := Lib.hid (V0.out.below hb1 (by omega))
  have E1 := Lib.hid (below_step hb1 E0.out (by omega))
  clear hb1 H1 H2 R0 V0 E0
  cases hv : validR D p S q [] z
  · have HO : Hid (newROut D p S q z = (.zero, false)) := by show _ = _; simp [newROut, hv]
    have HV := Lib.hid hv
    clear hv
    have r0 := (R1.out.2 0 _ rfl).1; have r1 := (R1.out.2 1 _ rfl).1; have r2 := (R1.out.2 2 _ rfl).1; have r3 := (R1.out.2 3 _ rfl).1; have r4 := (R1.out.2 4 _ rfl).1; have r5 := (R1.out.2 5 _ rfl).1
    have g0 := (R1.out.2 0 _ rfl).2; have g1 := (R1.out.2 1 _ rfl).2; have g2 := (R1.out.2 2 _ rfl).2; have g3 := (R1.out.2 3 _ rfl).2; have g4 := (R1.out.2 4 _ rfl).2; have g5 := (R1.out.2 5 _ rfl).2
    go_wp2
    refine bodyPost_ret (v := .tuple #[.agg #[.slice none 0 0, .int .i64 0, .slice none 0 0, .int .i64 0, .slice none 0 0, .int .i64 0], .bool false]) (by simp [results, Try.results48, go_sem, r0, r1, r2, r3, r4, r5, g0, g1, g2, g3, g4, g5]) rfl ?_
    rw [HO.out]
    refine Post2R.zero ?_
    (repeat (with_reducible refine below_set ?_ (by omega) _))
    exact E1.out
  · have HO : Hid (newROut D p S q z = (⟨D, p, S, q, [], z⟩, true)) := by show _ = _; simp [newROut, hv]
    obtain ⟨hvd, hz, _, _⟩ := validR_iff.1 hv
    obtain ⟨hb, hs12, _, hp, hq⟩ := validD_iff.1 hvd
    have hn60 : n ≤ 60 := by rw [HL.out]; exact bytesB_le hb
    have hn12 : n' ≤ 12 := by rw [HL'.out]; exact hs12
    clear hv hvd hb hs12
    have x0 := (V1.out.2 0 _ rfl).1; have x1 := (V1.out.2 1 _ rfl).1; have x2 := (V1.out.2 2 _ rfl).1; have x3 := (V1.out.2 3 _ rfl).1; have x4 := (V1.out.2 4 _ rfl).1; have x5 := (V1.out.2 5 _ rfl).1
    go_wp2_with fail
    refine (lookaheadOf_any I1.out I2.out (Ints.nil w1 0 0 0 none).1 (by omega) (by omega) (by omega) (by omega) (by omega) (by omega) (by unfold okInt; omega) (by unfold okInt; omega)).mono ?_
    rintro e w2 ⟨b, A3, n3, c3, A3', n3', c3', A4, n4, c4, rfl, ⟨hc3, hc3', hc4⟩, hb2, hbl, hx, h1, h2, h3, ha, ha1, ha2⟩
    have HX := Lib.hid hx
    have hbw := hx.lt
    have s2 := hb2.size
    have D2 := Lib.hid h1
    have D2' := Lib.hid h2
    have D2r := Lib.hid h3
    have HA := Lib.hid ha
    have HA1 := Lib.hid ha1
    have HA2 := Lib.hid ha2
    have R2 := Lib.hid (R1.out.below hb2 (by omega))
    have E2 := Lib.hid (below_step hb2 E1.out (by omega))
    clear hb2 hx h1 h2 h3 ha ha1 ha2 R1 V1 E1
    clear x0 x1 x2 x3 x4 x5
    go_wp2_with fail
    refine (reader_any HX.out).mono ?_
    rintro e w3 ⟨rfl, hb3⟩
    have s3 := hb3.size
    have D3 := Lib.hid (D2.out.below hb3 (by omega))
    have D3' := Lib.hid (D2'.out.below hb3 (by omega))
    have D3r := Lib.hid (D2r.out.below hb3 (by omega))
    have R3 := Lib.hid (R2.out.below hb3 (by omega))
    have E3 := Lib.hid (below_step hb3 E2.out (by omega))
    clear hb3 D2 D2' D2r R2 E2
    have r0 := (R3.out.2 0 _ rfl).1; have r1 := (R3.out.2 1 _ rfl).1; have r2 := (R3.out.2 2 _ rfl).1; have r3 := (R3.out.2 3 _ rfl).1; have r4 := (R3.out.2 4 _ rfl).1; have r5 := (R3.out.2 5 _ rfl).1
    have g0 := (R3.out.2 0 _ rfl).2; have g1 := (R3.out.2 1 _ rfl).2; have g2 := (R3.out.2 2 _ rfl).2; have g3 := (R3.out.2 3 _ rfl).2; have g4 := (R3.out.2 4 _ rfl).2; have g5 := (R3.out.2 5 _ rfl).2
    go_wp2
    refine bodyPost_ret (v := .tuple #[.agg #[.slice (A3) n3 c3, .int .i64 (p), .slice (A3') n3' c3', .int .i64 (q), .slice (A4) n4 c4, .int .i64 (z)], .bool true]) (by simp [results, Try.results48, go_sem, r0, r1, r2, r3, r4, r5, g0, g1, g2, g3, g4, g5]) rfl ?_
    rw [HO.out]
    refine ⟨_, _, _, _, _, _, _, _, _, rfl, ⟨hc3, hc3', hc4⟩, ?_, ⟨⟨?_, ?_, HA.out, ?_, ?_⟩, ?_, HA1.out, HA2.out, ?_⟩⟩
    · (repeat (with_reducible refine below_set ?_ (by omega) _))
      exact E3.out
    · simp only [World.size_setCell]
      refine Ints.more (lo := w1.heap.size) (hi := b) ?_ (by omega) (by omega)
      (repeat (with_reducible refine Ints.set_ ?_ (by omega) _))
      exact D3.out
    · simp only [World.size_setCell]
      refine Ints.more (lo := w1.heap.size) (hi := b) ?_ (by omega) (by omega)
      (repeat (with_reducible refine Ints.set_ ?_ (by omega) _))
      exact D3'.out
    · unfold okInt; show _ ≤ p ∧ p ≤ _; omega
    · unfold okInt; show _ ≤ q ∧ q ≤ _; omega
    · simp only [World.size_setCell]
      refine Ints.more (lo := w1.heap.size) (hi := b) ?_ (by omega) (by omega)
      (repeat (with_reducible refine Ints.set_ ?_ (by omega) _))
      exact D3r.out
    · unfold okInt; show _ ≤ z ∧ z ≤ _; omega
end Go.Proofs.Ytjilbjkmnmbfeaa
