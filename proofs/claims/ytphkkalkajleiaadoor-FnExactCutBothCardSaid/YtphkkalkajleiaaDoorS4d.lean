/- A file's flush, the model's FlushBoth. -/
import Derived.Test.YtphkkalkajleiaaDoorS3c
import Derived.Test.YtphkkalkajleiaaDoorS4b
import Derived.Test.YtphkkalkajleiaaDoorC4c
namespace Go.Proofs.YtphkkalkajleiaaDoor
open Go.ChangeShapes Go.WideShapes Go.ChangeAt Go.RowKit
set_option linter.unusedSimpArgs false
set_option linter.unusedVariables false
set_option maxRecDepth 10000

set_option maxHeartbeats 2000000 in
theorem sGoodBoth_any {A A' A2 A3 : Option Addr} {n c n' c' n2 c2 n3 c3 : Nat} {D S R Q : List Int} {p q z : Int} {w : World} {L L' B B' M C U V : Nat} (h : Ints w L B A n D) (h' : Ints w L' B' A' n' S) (g : Ints w M C A2 n2 R) (j : Ints w U V A3 n3 Q) (hB : B ≤ w.heap.size) (hB' : B' ≤ w.heap.size) (hC : C ≤ w.heap.size) (hV : V ≤ w.heap.size) :
    Calls Tryd.prog 73 #[.agg #[.slice (A) n c, .int .i64 (p), .slice (A') n' c', .int .i64 (q), .slice (A2) n2 c2, .slice (A3) n3 c3, .int .i64 (z)]] w (BoolB (goodB D p S q R Q z) w) := by
  have HQ := Lib.hid j.len
  have HG := Lib.hid g.len
  have HL := Lib.hid h.len
  have HL' := Lib.hid h'.len
  have H10 := Lib.hid (h.alloc hB (.cells #[.slice (A) n c, .int .i64 (p), .slice (A') n' c', .int .i64 (q), .slice (A2) n2 c2, .slice (A3) n3 c3, .int .i64 (z)] 51))
  have H20 := Lib.hid (h'.alloc hB' (.cells #[.slice (A) n c, .int .i64 (p), .slice (A') n' c', .int .i64 (q), .slice (A2) n2 c2, .slice (A3) n3 c3, .int .i64 (z)] 51))
  have G0 := Lib.hid (g.alloc hC (.cells #[.slice (A) n c, .int .i64 (p), .slice (A') n' c', .int .i64 (q), .slice (A2) n2 c2, .slice (A3) n3 c3, .int .i64 (z)] 51))
  have J0 := Lib.hid (j.alloc hV (.cells #[.slice (A) n c, .int .i64 (p), .slice (A') n' c', .int .i64 (q), .slice (A2) n2 c2, .slice (A3) n3 c3, .int .i64 (z)] 51))
  have X0 := Lib.hid (Box.new w 51 [.slice (A) n c, .int .i64 (p), .slice (A') n' c', .int .i64 (q), .slice (A2) n2 c2, .slice (A3) n3 c3, .int .i64 (z)])
  have E0 : Hid (Below w.heap.size w (w.alloc (.cells #[.slice (A) n c, .int .i64 (p), .slice (A') n' c', .int .i64 (q), .slice (A2) n2 c2, .slice (A3) n3 c3, .int .i64 (z)] 51))) := (by go_grown : Below w.heap.size w _)
  have s0 : (w.alloc (.cells #[.slice (A) n c, .int .i64 (p), .slice (A') n' c', .int .i64 (q), .slice (A2) n2 c2, .slice (A3) n3 c3, .int .i64 (z)] 51)).heap.size = w.heap.size + 1 := by simp
  clear h h' g j
  have x0 := (X0.out.2 0 _ rfl).1; have x1 := (X0.out.2 1 _ rfl).1; have x2 := (X0.out.2 2 _ rfl).1; have x3 := (X0.out.2 3 _ rfl).1; have x4 := (X0.out.2 4 _ rfl).1; have x5 := (X0.out.2 5 _ rfl).1; have x6 := (X0.out.2 6 _ rfl).1
  go_enter Tryd.func73, Tryd.ntmps73
  go_wp2_with fail
  generalize w.alloc (.cells #[.slice (A) n c, .int .i64 (p), .slice (A') n' c', .int .i64 (q), .slice (A2) n2 c2, .slice (A3) n3 c3, .int .i64 (z)] 51) = w0 at *
  clear x0 x1 x2 x3 x4 x5 x6
  refine (validBoth_any H10.out H20.out G0.out J0.out (by omega) (by omega) (by omega) (by omega)).mono ?_
  rintro e w1 ⟨rfl, hb1⟩
  have s1 := hb1.size
  have E1 := Lib.hid (below_step hb1 E0.out (by omega))
  have X1 := Lib.hid (X0.out.below hb1 (by omega))
  have H11 := Lib.hid (H10.out.below hb1 (by omega))
  have H21 := Lib.hid (H20.out.below hb1 (by omega))
  have G1 := Lib.hid (G0.out.below hb1 (by omega))
  have J1 := Lib.hid (J0.out.below hb1 (by omega))
  clear hb1 H10 H20 G0 J0 X0 E0
  have x0 := (X1.out.2 0 _ rfl).1; have x1 := (X1.out.2 1 _ rfl).1; have x2 := (X1.out.2 2 _ rfl).1; have x3 := (X1.out.2 3 _ rfl).1; have x4 := (X1.out.2 4 _ rfl).1; have x5 := (X1.out.2 5 _ rfl).1; have x6 := (X1.out.2 6 _ rfl).1
  go_wp2
  all_goals
    go_ret
    refine ⟨ret_bool ?_, E1.out⟩
    first | (simp [goodB, *]; done) | (simp [goodB]; omega)
/-- A file in new memory. -/
def CopyBPost (o : Bv) (w : World) (e : Ending) (w' : World) : Prop :=
  ∃ A n c A' n' c' A2 n2 c2 A3 n3 c3, e = .returned (.agg #[.slice (A) n c, .int .i64 (o.p), .slice (A') n' c', .int .i64 (o.q), .slice (A2) n2 c2, .slice (A3) n3 c3, .int .i64 (o.z)]) ∧ (n ≤ c ∧ n' ≤ c' ∧ n2 ≤ c2 ∧ n3 ≤ c3) ∧ Below w.heap.size w w' ∧ BotB w' w.heap.size w'.heap.size A n A' n' A2 n2 A3 n3 o
set_option maxHeartbeats 8000000 in
theorem sCopyBoth_any {A A' A2 A3 : Option Addr} {n c n' c' n2 c2 n3 c3 : Nat} {D S R Q : List Int} {p q z : Int} {w : World} {L L' B B' M C U V : Nat} (h : Ints w L B A n D) (h' : Ints w L' B' A' n' S) (g : Ints w M C A2 n2 R) (j : Ints w U V A3 n3 Q) (hB : B ≤ w.heap.size) (hB' : B' ≤ w.heap.size) (hC : C ≤ w.heap.size) (hV : V ≤ w.heap.size)
    (hn : n ≤ 1048576) (hn' : n' ≤ 1048576) (hn2 : n2 ≤ 1048576) (hn3 : n3 ≤ 1048576) (hp : okInt p) (hq : okInt q) (hz : okInt z) :
    Calls Tryd.prog 75 #[.agg #[.slice (A) n c, .int .i64 (p), .slice (A') n' c', .int .i64 (q), .slice (A2) n2 c2, .slice (A3) n3 c3, .int .i64 (z)]] w (CopyBPost ⟨D, p, S, q, R, Q, z⟩ w) := by
  have H10 : Hid (Ints ((w.alloc (.cells #[.slice (A) n c, .int .i64 (p), .slice (A') n' c', .int .i64 (q), .slice (A2) n2 c2, .slice (A3) n3 c3, .int .i64 (z)] 51)).alloc (.cells #[.slice none 0 0, .int .i64 0, .slice none 0 0, .int .i64 0, .slice none 0 0, .slice none 0 0, .int .i64 0] 51)) L B A n D) := (h.alloc hB _).alloc (by first | omega | (simp; omega) | (simp; done)) _
  have H20 : Hid (Ints ((w.alloc (.cells #[.slice (A) n c, .int .i64 (p), .slice (A') n' c', .int .i64 (q), .slice (A2) n2 c2, .slice (A3) n3 c3, .int .i64 (z)] 51)).alloc (.cells #[.slice none 0 0, .int .i64 0, .slice none 0 0, .int .i64 0, .slice none 0 0, .slice none 0 0, .int .i64 0] 51)) L' B' A' n' S) := (h'.alloc hB' _).alloc (by first | omega | (simp; omega) | (simp; done)) _
  have G0 : Hid (Ints ((w.alloc (.cells #[.slice (A) n c, .int .i64 (p), .slice (A') n' c', .int .i64 (q), .slice (A2) n2 c2, .slice (A3) n3 c3, .int .i64 (z)] 51)).alloc (.cells #[.slice none 0 0, .int .i64 0, .slice none 0 0, .int .i64 0, .slice none 0 0, .slice none 0 0, .int .i64 0] 51)) M C A2 n2 R) := (g.alloc hC _).alloc (by first | omega | (simp; omega) | (simp; done)) _
  have J0 : Hid (Ints ((w.alloc (.cells #[.slice (A) n c, .int .i64 (p), .slice (A') n' c', .int .i64 (q), .slice (A2) n2 c2, .slice (A3) n3 c3, .int .i64 (z)] 51)).alloc (.cells #[.slice none 0 0, .int .i64 0, .slice none 0 0, .int .i64 0, .slice none 0 0, .slice none 0 0, .int .i64 0] 51)) U V A3 n3 Q) := (j.alloc hV _).alloc (by first | omega | (simp; omega) | (simp; done)) _
  have X0 : Hid (Box ((w.alloc (.cells #[.slice (A) n c, .int .i64 (p), .slice (A') n' c', .int .i64 (q), .slice (A2) n2 c2, .slice (A3) n3 c3, .int .i64 (z)] 51)).alloc (.cells #[.slice none 0 0, .int .i64 0, .slice none 0 0, .int .i64 0, .slice none 0 0, .slice none 0 0, .int .i64 0] 51)) w.heap.size [.slice (A) n c, .int .i64 (p), .slice (A') n' c', .int .i64 (q), .slice (A2) n2 c2, .slice (A3) n3 c3, .int .i64 (z)]) := (Box.new w 51 [.slice (A) n c, .int .i64 (p), .slice (A') n' c', .int .i64 (q), .slice (A2) n2 c2, .slice (A3) n3 c3, .int .i64 (z)]).alloc _
  have R0 : Hid (Box ((w.alloc (.cells #[.slice (A) n c, .int .i64 (p), .slice (A') n' c', .int .i64 (q), .slice (A2) n2 c2, .slice (A3) n3 c3, .int .i64 (z)] 51)).alloc (.cells #[.slice none 0 0, .int .i64 0, .slice none 0 0, .int .i64 0, .slice none 0 0, .slice none 0 0, .int .i64 0] 51)) (w.heap.size + 1) [.slice none 0 0, .int .i64 0, .slice none 0 0, .int .i64 0, .slice none 0 0, .slice none 0 0, .int .i64 0]) := by
    have hx := Box.new (w.alloc (.cells #[.slice (A) n c, .int .i64 (p), .slice (A') n' c', .int .i64 (q), .slice (A2) n2 c2, .slice (A3) n3 c3, .int .i64 (z)] 51)) 51 [.slice none 0 0, .int .i64 0, .slice none 0 0, .int .i64 0, .slice none 0 0, .slice none 0 0, .int .i64 0]
    rw [World.size_alloc] at hx
    exact hx
  have E0 : Hid (Below w.heap.size w ((w.alloc (.cells #[.slice (A) n c, .int .i64 (p), .slice (A') n' c', .int .i64 (q), .slice (A2) n2 c2, .slice (A3) n3 c3, .int .i64 (z)] 51)).alloc (.cells #[.slice none 0 0, .int .i64 0, .slice none 0 0, .int .i64 0, .slice none 0 0, .slice none 0 0, .int .i64 0] 51))) := (by go_grown : Below w.heap.size w _)
  have s0 : (((w.alloc (.cells #[.slice (A) n c, .int .i64 (p), .slice (A') n' c', .int .i64 (q), .slice (A2) n2 c2, .slice (A3) n3 c3, .int .i64 (z)] 51)).alloc (.cells #[.slice none 0 0, .int .i64 0, .slice none 0 0, .int .i64 0, .slice none 0 0, .slice none 0 0, .int .i64 0] 51))).heap.size = w.heap.size + 2 := by simp
  clear h h' g j
  go_enter Tryd.func75, Tryd.ntmps75
  go_upto_region 1 with (fail)
  generalize ((w.alloc (.cells #[.slice (A) n c, .int .i64 (p), .slice (A') n' c', .int .i64 (q), .slice (A2) n2 c2, .slice (A3) n3 c3, .int .i64 (z)] 51)).alloc (.cells #[.slice none 0 0, .int .i64 0, .slice none 0 0, .int .i64 0, .slice none 0 0, .slice none 0 0, .int .i64 0] 51)) = w0 at *
  have x0 := (X0.out.2 0 _ rfl).1; have x1 := (X0.out.2 1 _ rfl).1; have x2 := (X0.out.2 2 _ rfl).1; have x3 := (X0.out.2 3 _ rfl).1; have x4 := (X0.out.2 4 _ rfl).1; have x5 := (X0.out.2 5 _ rfl).1; have x6 := (X0.out.2 6 _ rfl).1
  go_region_held3 (fun w' => w'.cell? ⟨w.heap.size, 0, none⟩ = some (.slice A n c) ∧ w'.cell? ⟨w.heap.size, 1, none⟩ = some (.int .i64 p) ∧ w'.cell? ⟨w.heap.size, 2, none⟩ = some (.slice A' n' c') ∧ w'.cell? ⟨w.heap.size, 3, none⟩ = some (.int .i64 q) ∧ w'.cell? ⟨w.heap.size, 4, none⟩ = some (.slice A2 n2 c2) ∧ w'.cell? ⟨w.heap.size, 5, none⟩ = some (.slice A3 n3 c3) ∧ w'.cell? ⟨w.heap.size, 6, none⟩ = some (.int .i64 z)) (go_keep)
    (first | (go_at_call 91; refine (copyInts_any J3.out (by omega) hn3).mono ?_; rintro e w3 ⟨A6, n6, c6, rfl, hc6, hb3, hi3⟩; have HB3 := Lib.hid hb3; have HI3 := Lib.hid hi3; have s3 := hb3.size; have X3 := Lib.hid (X2.out.below hb3 (by omega)); have R3 := Lib.hid (R2.out.below hb3 (by omega)); clear hb3 hi3; have x0 := (X3.out.2 0 _ rfl).1; have x1 := (X3.out.2 1 _ rfl).1; have x2 := (X3.out.2 2 _ rfl).1; have x3 := (X3.out.2 3 _ rfl).1; have x4 := (X3.out.2 4 _ rfl).1; have x5 := (X3.out.2 5 _ rfl).1; have x6 := (X3.out.2 6 _ rfl).1; have r0 := (R3.out.2 0 _ rfl).1; have r1 := (R3.out.2 1 _ rfl).1; have r2 := (R3.out.2 2 _ rfl).1; have r3 := (R3.out.2 3 _ rfl).1; have r4 := (R3.out.2 4 _ rfl).1; have r5 := (R3.out.2 5 _ rfl).1; have r6 := (R3.out.2 6 _ rfl).1; have g0 := (R3.out.2 0 _ rfl).2; have g1 := (R3.out.2 1 _ rfl).2; have g2 := (R3.out.2 2 _ rfl).2; have g3 := (R3.out.2 3 _ rfl).2; have g4 := (R3.out.2 4 _ rfl).2; have g5 := (R3.out.2 5 _ rfl).2; have g6 := (R3.out.2 6 _ rfl).2) | (go_at_call 91; refine (copyInts_any G2.out (by omega) hn2).mono ?_; rintro e w2 ⟨A5, n5, c5, rfl, hc5, hb2, hi2⟩; have HB2 := Lib.hid hb2; have HI2 := Lib.hid hi2; have s2 := hb2.size; have X2 := Lib.hid (X1.out.below hb2 (by omega)); have R2 := Lib.hid (R1.out.below hb2 (by omega)); have J3 := Lib.hid (J2.out.below hb2 (by omega)); clear hb2 hi2; have x0 := (X2.out.2 0 _ rfl).1; have x1 := (X2.out.2 1 _ rfl).1; have x2 := (X2.out.2 2 _ rfl).1; have x3 := (X2.out.2 3 _ rfl).1; have x4 := (X2.out.2 4 _ rfl).1; have x5 := (X2.out.2 5 _ rfl).1; have x6 := (X2.out.2 6 _ rfl).1) | (go_at_call 92; refine (sCopyDevice_any H10.out.drew H20.out.drew (by first | omega | (simp; omega) | (simp; done)) (by first | omega | (simp; omega) | (simp; done)) hn hn' hp hq).mono ?_; rintro e w1 ⟨A4, n4, c4, A4', n4', c4', rfl, ⟨hc4, hc4'⟩, hb1, hd, hd', ha, _, _⟩; (try simp only [World.size_alloc, World.size_setCell, World.size_drew] at hb1 hd hd'); have HB1 := Lib.hid hb1; have D1 := Lib.hid hd; have D1' := Lib.hid hd'; have HA := Lib.hid ha; have s1 := hb1.size; (try simp only [World.size_alloc, World.size_setCell, World.size_drew] at s1); have X1 := Lib.hid (X0.out.drew.below hb1 (by omega)); have R1 := Lib.hid (R0.out.drew.below hb1 (by omega)); have G2 := Lib.hid (G0.out.drew.below hb1 (by first | omega | (simp; omega) | (simp; done))); have J2 := Lib.hid (J0.out.drew.below hb1 (by first | omega | (simp; omega) | (simp; done))); clear hb1 hd hd' ha; have x0 := (X1.out.2 0 _ rfl).1; have x1 := (X1.out.2 1 _ rfl).1; have x2 := (X1.out.2 2 _ rfl).1; have x3 := (X1.out.2 3 _ rfl).1; have x4 := (X1.out.2 4 _ rfl).1; have x5 := (X1.out.2 5 _ rfl).1; have x6 := (X1.out.2 6 _ rfl).1))
  all_goals
    have D2 := Lib.hid ((D1.out.below HB2.out (by omega)).below HB3.out (by omega))
    have D2' := Lib.hid ((D1'.out.below HB2.out (by omega)).below HB3.out (by omega))
    have I2 := Lib.hid (HI2.out.below HB3.out (by omega))
    have e1 : Below w.heap.size w w1 := below_step HB1.out E0.out.drew (by omega)
    have E3 := Lib.hid (below_step HB3.out (below_step HB2.out e1 (by omega)) (by omega))
    clear e1
    go_wp2
    refine bodyPost_ret (v := .agg #[.slice (A4) n4 c4, .int .i64 (p), .slice (A4') n4' c4', .int .i64 (q), .slice (A5) n5 c5, .slice (A6) n6 c6, .int .i64 (z)]) (by simp [results, Tryd.results75, go_sem, r0, g0, r1, g1, r2, g2, r3, g3, r4, g4, r5, g5, r6, g6]) rfl ?_
    refine ⟨_, _, _, _, _, _, _, _, _, _, _, _, rfl, ⟨hc4, hc4', hc5, hc6⟩, ?_, ⟨⟨⟨?_, ?_, HA.out, hp, hq⟩, ?_, (Apart.of_le D2.out I2.out (by omega)).symm, (Apart.of_le D2'.out I2.out (by omega)).symm, hz⟩, ?_, (Apart.of_le D2.out HI3.out (by omega)).symm, (Apart.of_le D2'.out HI3.out (by omega)).symm, (Apart.of_le I2.out HI3.out (by omega)).symm⟩⟩
    · (repeat (with_reducible refine below_set ?_ (by omega) _))
      exact E3.out
    · simp only [World.size_setCell]
      refine Ints.more (lo := w0.heap.size) (hi := w1.heap.size) ?_ (by omega) (by omega)
      (repeat (with_reducible refine Ints.set_ ?_ (by omega) _))
      exact D2.out
    · simp only [World.size_setCell]
      refine Ints.more (lo := w0.heap.size) (hi := w1.heap.size) ?_ (by omega) (by omega)
      (repeat (with_reducible refine Ints.set_ ?_ (by omega) _))
      exact D2'.out
    · simp only [World.size_setCell]
      refine Ints.more (lo := w1.heap.size) (hi := w2.heap.size) ?_ (by omega) (by omega)
      (repeat (with_reducible refine Ints.set_ ?_ (by omega) _))
      exact I2.out
    · simp only [World.size_setCell]
      refine Ints.more (lo := w2.heap.size) (hi := w3.heap.size) ?_ (by omega) (by omega)
      (repeat (with_reducible refine Ints.set_ ?_ (by omega) _))
      exact HI3.out
/-- What the model's flush of a file gives. -/
def SFBPost (A : Option Addr) (n M C : Nat) (A' : Option Addr) (n' c' : Nat) (A2 : Option Addr) (n2 c2 : Nat) (z : Int) (A3 : Option Addr) (n3 U V : Nat) (T : Fv) (w : World) (e : Ending) (w' : World) : Prop :=
  ∃ A1 n1 c1 A5 n5 c5 M1 C1 M5 C5, e = .returned (.tuple #[.agg #[.slice (A1) n1 c1, .int .i64 (T.p), .slice (A') n' c', .int .i64 ((T.q : Int)), .slice (A2) n2 c2, .slice (A5) n5 c5, .int .i64 (z)], .int .i64 T.st]) ∧ (n1 ≤ c1 ∧ n5 ≤ c5) ∧ Below w.heap.size w w' ∧ (Ints w' M1 C1 A1 n1 T.d ∧ Ints w' M5 C5 A5 n5 T.r) ∧ (C1 ≤ w'.heap.size ∧ C5 ≤ w'.heap.size) ∧
    ((A1 = A ∧ n1 = n ∧ M1 = M ∧ C1 = C) ∨ w.heap.size ≤ M1) ∧ ((A5 = A3 ∧ n5 = n3 ∧ M5 = U ∧ C5 = V) ∨ w.heap.size ≤ M5) ∧ Apart A5 n5 A1 n1
set_option maxHeartbeats 8000000 in
theorem flushBoth_any {A A' A2 A3 : Option Addr} {n c n' c' n2 c2 n3 c3 q0 : Nat} {D S Q : List Int} {p z : Int} {w : World} {L' B B' M U V : Nat} (h : Ints w M B A n D) (h' : Ints w L' B' A' n' S) (j : Ints w U V A3 n3 Q) (hB : B ≤ w.heap.size) (hB' : B' ≤ w.heap.size) (hV : V ≤ w.heap.size) (hap : Apart A3 n3 A n)
    (hnc : n ≤ c) (hn3 : n3 ≤ c3) (hv : validD D p S (q0 : Int) = true) (hq : q0 ≤ 900) (hQ : Q.length ≤ 16) (hQ2 : allB Q 0 255 = true) :
    Calls Tryd.prog 74 #[.agg #[.slice (A) n c, .int .i64 (p), .slice (A') n' c', .int .i64 ((q0 : Int)), .slice (A2) n2 c2, .slice (A3) n3 c3, .int .i64 (z)]] w (SFBPost A n M B A' n' c' A2 n2 c2 z A3 n3 U V (fuGo S Q.length D p q0 Q) w) := by
  obtain ⟨T, hT⟩ : ∃ T, fuGo S Q.length D p q0 Q = T := ⟨_, rfl⟩
  rw [hT]
  have H10 : Hid (Ints ((w.alloc (.cells #[.slice (A) n c, .int .i64 (p), .slice (A') n' c', .int .i64 ((q0 : Int)), .slice (A2) n2 c2, .slice (A3) n3 c3, .int .i64 (z)] 51)).alloc (.cells #[.slice none 0 0, .int .i64 0, .slice none 0 0, .int .i64 0, .slice none 0 0, .slice none 0 0, .int .i64 0] 51)) M B A n D) := (h.alloc hB _).alloc (by first | omega | (simp; omega) | (simp; done)) _
  have H20 : Hid (Ints ((w.alloc (.cells #[.slice (A) n c, .int .i64 (p), .slice (A') n' c', .int .i64 ((q0 : Int)), .slice (A2) n2 c2, .slice (A3) n3 c3, .int .i64 (z)] 51)).alloc (.cells #[.slice none 0 0, .int .i64 0, .slice none 0 0, .int .i64 0, .slice none 0 0, .slice none 0 0, .int .i64 0] 51)) L' B' A' n' S) := (h'.alloc hB' _).alloc (by first | omega | (simp; omega) | (simp; done)) _
  have J0 : Hid (Ints ((w.alloc (.cells #[.slice (A) n c, .int .i64 (p), .slice (A') n' c', .int .i64 ((q0 : Int)), .slice (A2) n2 c2, .slice (A3) n3 c3, .int .i64 (z)] 51)).alloc (.cells #[.slice none 0 0, .int .i64 0, .slice none 0 0, .int .i64 0, .slice none 0 0, .slice none 0 0, .int .i64 0] 51)) U V A3 n3 Q) := (j.alloc hV _).alloc (by first | omega | (simp; omega) | (simp; done)) _
  have X0 : Hid (Box ((w.alloc (.cells #[.slice (A) n c, .int .i64 (p), .slice (A') n' c', .int .i64 ((q0 : Int)), .slice (A2) n2 c2, .slice (A3) n3 c3, .int .i64 (z)] 51)).alloc (.cells #[.slice none 0 0, .int .i64 0, .slice none 0 0, .int .i64 0, .slice none 0 0, .slice none 0 0, .int .i64 0] 51)) w.heap.size [.slice (A) n c, .int .i64 (p), .slice (A') n' c', .int .i64 ((q0 : Int)), .slice (A2) n2 c2, .slice (A3) n3 c3, .int .i64 (z)]) := (Box.new w 51 [.slice (A) n c, .int .i64 (p), .slice (A') n' c', .int .i64 ((q0 : Int)), .slice (A2) n2 c2, .slice (A3) n3 c3, .int .i64 (z)]).alloc _
  have R0 : Hid (Box ((w.alloc (.cells #[.slice (A) n c, .int .i64 (p), .slice (A') n' c', .int .i64 ((q0 : Int)), .slice (A2) n2 c2, .slice (A3) n3 c3, .int .i64 (z)] 51)).alloc (.cells #[.slice none 0 0, .int .i64 0, .slice none 0 0, .int .i64 0, .slice none 0 0, .slice none 0 0, .int .i64 0] 51)) (w.heap.size + 1) [.slice none 0 0, .int .i64 0, .slice none 0 0, .int .i64 0, .slice none 0 0, .slice none 0 0, .int .i64 0]) := by
    have hx := Box.new (w.alloc (.cells #[.slice (A) n c, .int .i64 (p), .slice (A') n' c', .int .i64 ((q0 : Int)), .slice (A2) n2 c2, .slice (A3) n3 c3, .int .i64 (z)] 51)) 51 [.slice none 0 0, .int .i64 0, .slice none 0 0, .int .i64 0, .slice none 0 0, .slice none 0 0, .int .i64 0]
    rw [World.size_alloc] at hx
    exact hx
  have E0 : Hid (Below w.heap.size w ((w.alloc (.cells #[.slice (A) n c, .int .i64 (p), .slice (A') n' c', .int .i64 ((q0 : Int)), .slice (A2) n2 c2, .slice (A3) n3 c3, .int .i64 (z)] 51)).alloc (.cells #[.slice none 0 0, .int .i64 0, .slice none 0 0, .int .i64 0, .slice none 0 0, .slice none 0 0, .int .i64 0] 51))) := (by go_grown : Below w.heap.size w _)
  have s0 : (((w.alloc (.cells #[.slice (A) n c, .int .i64 (p), .slice (A') n' c', .int .i64 ((q0 : Int)), .slice (A2) n2 c2, .slice (A3) n3 c3, .int .i64 (z)] 51)).alloc (.cells #[.slice none 0 0, .int .i64 0, .slice none 0 0, .int .i64 0, .slice none 0 0, .slice none 0 0, .int .i64 0] 51))).heap.size = w.heap.size + 2 := by simp
  clear h h' j
  have x0 := (X0.out.2 0 _ rfl).1; have x1 := (X0.out.2 1 _ rfl).1; have x2 := (X0.out.2 2 _ rfl).1; have x3 := (X0.out.2 3 _ rfl).1; have x4 := (X0.out.2 4 _ rfl).1; have x5 := (X0.out.2 5 _ rfl).1; have x6 := (X0.out.2 6 _ rfl).1
  go_enter Tryd.func74, Tryd.ntmps74
  go_wp2_with fail
  generalize ((w.alloc (.cells #[.slice (A) n c, .int .i64 (p), .slice (A') n' c', .int .i64 ((q0 : Int)), .slice (A2) n2 c2, .slice (A3) n3 c3, .int .i64 (z)] 51)).alloc (.cells #[.slice none 0 0, .int .i64 0, .slice none 0 0, .int .i64 0, .slice none 0 0, .slice none 0 0, .int .i64 0] 51)) = w0 at *
  clear x0 x1 x2 x3 x4 x5 x6
  have hflush := flushed_any (z := z) (c' := c') H10.out H20.out J0.out (by omega) (by omega) (by omega) hap hnc hn3 hv hq hQ hQ2
  rw [hT] at hflush
  refine hflush.mono ?_
  rintro e w1 ⟨A5, n5, c5, A6, n6, c6, M5, C5, M6, C6, rfl, ⟨hc5, hc6⟩, hb1, ⟨hi5, hi6⟩, ⟨hC5, hC6⟩, hor5, hor6, hap1⟩
  have s1 := hb1.size
  have X1 := Lib.hid (X0.out.below hb1 (by omega))
  have R1 := Lib.hid (R0.out.below hb1 (by omega))
  have E1 := Lib.hid (below_step hb1 E0.out (by omega))
  have D1 := Lib.hid hi5
  have D1r := Lib.hid hi6
  have HAP := Lib.hid hap1
  have hor5' : (A5 = A ∧ n5 = n ∧ M5 = M ∧ C5 = B) ∨ w.heap.size + 2 ≤ M5 := hor5.imp id fun h => by omega
  have hor6' : (A6 = A3 ∧ n6 = n3 ∧ M6 = U ∧ C6 = V) ∨ w.heap.size + 2 ≤ M6 := hor6.imp id fun h => by omega
  have hf5 : (w.heap.size < M5 ∨ C5 ≤ w.heap.size) ∧ (w.heap.size + 1 < M5 ∨ C5 ≤ w.heap.size + 1) := by rcases hor5' with ⟨_, _, _, rfl⟩ | h <;> omega
  have hf6 : (w.heap.size < M6 ∨ C6 ≤ w.heap.size) ∧ (w.heap.size + 1 < M6 ∨ C6 ≤ w.heap.size + 1) := by rcases hor6' with ⟨_, _, _, rfl⟩ | h <;> omega
  clear hb1 hi5 hi6 hor5 hor6 X0 R0 E0 H10 H20 J0 hap1 hflush hv hQ2 hT
  go_upto_region 2 with (fail)
  refine wp_renameW (fun w2 => Hid (Box w2 w1.heap.size [.slice (A5) n5 c5, .int .i64 (T.p), .slice (A') n' c', .int .i64 ((T.q : Int)), .slice (A6) n6 c6, .int .i64 (z)]) ∧ Hid (Box w2 w.heap.size [.slice (A) n c, .int .i64 (p), .slice (A') n' c', .int .i64 ((q0 : Int)), .slice (A2) n2 c2, .slice (A3) n3 c3, .int .i64 (z)]) ∧ Hid (Box w2 (w.heap.size + 1) [.slice none 0 0, .int .i64 0, .slice none 0 0, .int .i64 0, .slice none 0 0, .slice none 0 0, .int .i64 0]) ∧ Hid (Below w.heap.size w w2) ∧ Hid (Ints w2 M5 C5 A5 n5 T.d) ∧ Hid (Ints w2 M6 C6 A6 n6 T.r) ∧ w1.heap.size < w2.heap.size) ⟨Box.new w1 30 [.slice (A5) n5 c5, .int .i64 (T.p), .slice (A') n' c', .int .i64 ((T.q : Int)), .slice (A6) n6 c6, .int .i64 (z)], X1.out.alloc _, R1.out.alloc _, E1.out.alloc (by omega) _, D1.out.alloc hC5 _, D1r.out.alloc hC6 _, by simp⟩ ?_
  clear X1 R1 E1 D1 D1r
  rintro w2 ⟨Y2, X2, R2, E2, D2, D2r, s2⟩
  have y0 := (Y2.out.2 0 _ rfl).1; have y1 := (Y2.out.2 1 _ rfl).1; have y2 := (Y2.out.2 2 _ rfl).1; have y3 := (Y2.out.2 3 _ rfl).1; have y4 := (Y2.out.2 4 _ rfl).1; have y5 := (Y2.out.2 5 _ rfl).1
  have x0 := (X2.out.2 0 _ rfl).1; have x1 := (X2.out.2 1 _ rfl).1; have x2 := (X2.out.2 2 _ rfl).1; have x3 := (X2.out.2 3 _ rfl).1; have x4 := (X2.out.2 4 _ rfl).1; have x5 := (X2.out.2 5 _ rfl).1; have x6 := (X2.out.2 6 _ rfl).1
  have f0 := (X2.out.2 0 _ rfl).2; have f1 := (X2.out.2 1 _ rfl).2; have f2 := (X2.out.2 2 _ rfl).2; have f3 := (X2.out.2 3 _ rfl).2; have f4 := (X2.out.2 4 _ rfl).2; have f5 := (X2.out.2 5 _ rfl).2; have f6 := (X2.out.2 6 _ rfl).2
  go_upto_region 4 with (fail)
  clear y0 y1 y2 y3 y4 y5
  clear x0 x1 x2 x3 x4 x5 x6
  clear f0 f1 f2 f3 f4 f5 f6
  refine wp_renameW (fun w3 => Hid (Box w3 w.heap.size [.slice (A5) n5 c5, .int .i64 (T.p), .slice (A') n' c', .int .i64 ((T.q : Int)), .slice (A2) n2 c2, .slice (A6) n6 c6, .int .i64 (z)]) ∧ Hid (Box w3 (w.heap.size + 1) [.slice none 0 0, .int .i64 0, .slice none 0 0, .int .i64 0, .slice none 0 0, .slice none 0 0, .int .i64 0]) ∧ Hid (Below w.heap.size w w3) ∧ Hid (Ints w3 M5 C5 A5 n5 T.d) ∧ Hid (Ints w3 M6 C6 A6 n6 T.r) ∧ w3.heap.size = w2.heap.size) ⟨?_, ?_, ?_, ?_, ?_, ?_⟩ ?_
  · have hx := ((((X2.out.put (i := 0) (by simp) (.slice A5 n5 c5)).put (i := 1) (by simp) (.int .i64 T.p)).put (i := 2) (by simp) (.slice A' n' c')).put (i := 3) (by simp) (.int .i64 (T.q : Int))).put (i := 5) (by simp) (.slice A6 n6 c6)
    show Box _ _ _
    simpa using hx
  · show Box _ _ _
    (repeat (with_reducible refine Box.set_ ?_ (by omega) _))
    exact R2.out
  · show Below _ _ _
    (repeat (with_reducible refine below_set ?_ (by omega) _))
    exact E2.out
  · show Ints _ _ _ _ _ _
    (repeat (with_reducible refine Ints.set_ ?_ (by omega) _))
    exact D2.out
  · show Ints _ _ _ _ _ _
    (repeat (with_reducible refine Ints.set_ ?_ (by omega) _))
    exact D2r.out
  · simp only [World.size_setCell]
  clear Y2 X2 R2 E2 D2 D2r
  rintro w3 ⟨X3, R3, E3, D3, D3r, s3⟩
  have x0 := (X3.out.2 0 _ rfl).1; have x1 := (X3.out.2 1 _ rfl).1; have x2 := (X3.out.2 2 _ rfl).1; have x3 := (X3.out.2 3 _ rfl).1; have x4 := (X3.out.2 4 _ rfl).1; have x5 := (X3.out.2 5 _ rfl).1; have x6 := (X3.out.2 6 _ rfl).1
  have r0 := (R3.out.2 0 _ rfl).1; have r1 := (R3.out.2 1 _ rfl).1; have r2 := (R3.out.2 2 _ rfl).1; have r3 := (R3.out.2 3 _ rfl).1; have r4 := (R3.out.2 4 _ rfl).1; have r5 := (R3.out.2 5 _ rfl).1; have r6 := (R3.out.2 6 _ rfl).1
  have g0 := (R3.out.2 0 _ rfl).2; have g1 := (R3.out.2 1 _ rfl).2; have g2 := (R3.out.2 2 _ rfl).2; have g3 := (R3.out.2 3 _ rfl).2; have g4 := (R3.out.2 4 _ rfl).2; have g5 := (R3.out.2 5 _ rfl).2; have g6 := (R3.out.2 6 _ rfl).2
  go_wp2
  refine bodyPost_ret (v := .tuple #[.agg #[.slice (A5) n5 c5, .int .i64 (T.p), .slice (A') n' c', .int .i64 ((T.q : Int)), .slice (A2) n2 c2, .slice (A6) n6 c6, .int .i64 (z)], .int .i64 T.st]) (by simp [results, Tryd.results74, go_sem, r0, g0, r1, g1, r2, g2, r3, g3, r4, g4, r5, g5, r6, g6]) rfl ?_
  refine ⟨A5, n5, c5, A6, n6, c6, M5, C5, M6, C6, rfl, ⟨hc5, hc6⟩, ?_, ⟨?_, ?_⟩, ⟨by simp only [World.size_setCell]; omega, by simp only [World.size_setCell]; omega⟩, ?_, ?_, HAP.out⟩
  · (repeat (with_reducible refine below_set ?_ (by omega) _))
    exact E3.out
  · (repeat (with_reducible refine Ints.set_ ?_ (by omega) _))
    exact D3.out
  · (repeat (with_reducible refine Ints.set_ ?_ (by omega) _))
    exact D3r.out
  · rcases hor5' with h | h
    · exact .inl h
    · exact .inr (by omega)
  · rcases hor6' with h | h
    · exact .inl h
    · exact .inr (by omega)
set_option maxHeartbeats 8000000 in
theorem SFlushBoth_x {A A' A2 A3 : Option Addr} {n c n' c' n2 c2 n3 c3 : Nat} {D S R Q : List Int} {p q z : Int} {w : World} {L L' B B' M C U V : Nat} (h : Ints w L B A n D) (h' : Ints w L' B' A' n' S) (g : Ints w M C A2 n2 R) (j : Ints w U V A3 n3 Q) (hB : B ≤ w.heap.size) (hB' : B' ≤ w.heap.size) (hC : C ≤ w.heap.size) (hV : V ≤ w.heap.size) (hc : n ≤ c) (_hc1 : n' ≤ c') (_hc2 : n2 ≤ c2) (hc3 : n3 ≤ c3) (_hn : n ≤ 1048576) (_hn1 : n' ≤ 1048576) (_hn2 : n2 ≤ 1048576) (_hn3 : n3 ≤ 1048576) :
    Calls Tryd.prog 32 #[.agg #[.slice (A) n c, .int .i64 (p), .slice (A') n' c', .int .i64 (q), .slice (A2) n2 c2, .slice (A3) n3 c3, .int .i64 (z)]] w (PostBI (fbOut D p S q R Q z) w) := by
  have HQ := Lib.hid j.len
  have HG := Lib.hid g.len
  have HL := Lib.hid h.len
  have HL' := Lib.hid h'.len
  have H10 : Hid (Ints ((w.alloc (.cells #[.slice (A) n c, .int .i64 (p), .slice (A') n' c', .int .i64 (q), .slice (A2) n2 c2, .slice (A3) n3 c3, .int .i64 (z)] 51)).alloc (.cells #[.slice none 0 0, .int .i64 0, .slice none 0 0, .int .i64 0, .slice none 0 0, .slice none 0 0, .int .i64 0] 51)) L B A n D) := (h.alloc hB _).alloc (by first | omega | (simp; omega) | (simp; done)) _
  have H20 : Hid (Ints ((w.alloc (.cells #[.slice (A) n c, .int .i64 (p), .slice (A') n' c', .int .i64 (q), .slice (A2) n2 c2, .slice (A3) n3 c3, .int .i64 (z)] 51)).alloc (.cells #[.slice none 0 0, .int .i64 0, .slice none 0 0, .int .i64 0, .slice none 0 0, .slice none 0 0, .int .i64 0] 51)) L' B' A' n' S) := (h'.alloc hB' _).alloc (by first | omega | (simp; omega) | (simp; done)) _
  have G0 : Hid (Ints ((w.alloc (.cells #[.slice (A) n c, .int .i64 (p), .slice (A') n' c', .int .i64 (q), .slice (A2) n2 c2, .slice (A3) n3 c3, .int .i64 (z)] 51)).alloc (.cells #[.slice none 0 0, .int .i64 0, .slice none 0 0, .int .i64 0, .slice none 0 0, .slice none 0 0, .int .i64 0] 51)) M C A2 n2 R) := (g.alloc hC _).alloc (by first | omega | (simp; omega) | (simp; done)) _
  have J0 : Hid (Ints ((w.alloc (.cells #[.slice (A) n c, .int .i64 (p), .slice (A') n' c', .int .i64 (q), .slice (A2) n2 c2, .slice (A3) n3 c3, .int .i64 (z)] 51)).alloc (.cells #[.slice none 0 0, .int .i64 0, .slice none 0 0, .int .i64 0, .slice none 0 0, .slice none 0 0, .int .i64 0] 51)) U V A3 n3 Q) := (j.alloc hV _).alloc (by first | omega | (simp; omega) | (simp; done)) _
  have X0 : Hid (Box ((w.alloc (.cells #[.slice (A) n c, .int .i64 (p), .slice (A') n' c', .int .i64 (q), .slice (A2) n2 c2, .slice (A3) n3 c3, .int .i64 (z)] 51)).alloc (.cells #[.slice none 0 0, .int .i64 0, .slice none 0 0, .int .i64 0, .slice none 0 0, .slice none 0 0, .int .i64 0] 51)) w.heap.size [.slice (A) n c, .int .i64 (p), .slice (A') n' c', .int .i64 (q), .slice (A2) n2 c2, .slice (A3) n3 c3, .int .i64 (z)]) := (Box.new w 51 [.slice (A) n c, .int .i64 (p), .slice (A') n' c', .int .i64 (q), .slice (A2) n2 c2, .slice (A3) n3 c3, .int .i64 (z)]).alloc _
  have R0 : Hid (Box ((w.alloc (.cells #[.slice (A) n c, .int .i64 (p), .slice (A') n' c', .int .i64 (q), .slice (A2) n2 c2, .slice (A3) n3 c3, .int .i64 (z)] 51)).alloc (.cells #[.slice none 0 0, .int .i64 0, .slice none 0 0, .int .i64 0, .slice none 0 0, .slice none 0 0, .int .i64 0] 51)) (w.heap.size + 1) [.slice none 0 0, .int .i64 0, .slice none 0 0, .int .i64 0, .slice none 0 0, .slice none 0 0, .int .i64 0]) := by
    have hx := Box.new (w.alloc (.cells #[.slice (A) n c, .int .i64 (p), .slice (A') n' c', .int .i64 (q), .slice (A2) n2 c2, .slice (A3) n3 c3, .int .i64 (z)] 51)) 51 [.slice none 0 0, .int .i64 0, .slice none 0 0, .int .i64 0, .slice none 0 0, .slice none 0 0, .int .i64 0]
    rw [World.size_alloc] at hx
    exact hx
  have E0 : Hid (Below w.heap.size w ((w.alloc (.cells #[.slice (A) n c, .int .i64 (p), .slice (A') n' c', .int .i64 (q), .slice (A2) n2 c2, .slice (A3) n3 c3, .int .i64 (z)] 51)).alloc (.cells #[.slice none 0 0, .int .i64 0, .slice none 0 0, .int .i64 0, .slice none 0 0, .slice none 0 0, .int .i64 0] 51))) := (by go_grown : Below w.heap.size w _)
  have s0 : (((w.alloc (.cells #[.slice (A) n c, .int .i64 (p), .slice (A') n' c', .int .i64 (q), .slice (A2) n2 c2, .slice (A3) n3 c3, .int .i64 (z)] 51)).alloc (.cells #[.slice none 0 0, .int .i64 0, .slice none 0 0, .int .i64 0, .slice none 0 0, .slice none 0 0, .int .i64 0] 51))).heap.size = w.heap.size + 2 := by simp
  clear h h' g j
  have x0 := (X0.out.2 0 _ rfl).1; have x1 := (X0.out.2 1 _ rfl).1; have x2 := (X0.out.2 2 _ rfl).1; have x3 := (X0.out.2 3 _ rfl).1; have x4 := (X0.out.2 4 _ rfl).1; have x5 := (X0.out.2 5 _ rfl).1; have x6 := (X0.out.2 6 _ rfl).1
  go_enter Tryd.func32, Tryd.ntmps32
  go_wp2_with fail
  generalize ((w.alloc (.cells #[.slice (A) n c, .int .i64 (p), .slice (A') n' c', .int .i64 (q), .slice (A2) n2 c2, .slice (A3) n3 c3, .int .i64 (z)] 51)).alloc (.cells #[.slice none 0 0, .int .i64 0, .slice none 0 0, .int .i64 0, .slice none 0 0, .slice none 0 0, .int .i64 0] 51)) = w0 at *
  clear x0 x1 x2 x3 x4 x5 x6
  refine (sGoodBoth_any H10.out H20.out G0.out J0.out (by omega) (by omega) (by omega) (by omega)).mono ?_
  rintro e w1 ⟨rfl, hb1⟩
  have R1 := Lib.hid (R0.out.below hb1 (by omega))
  have s1 := hb1.size
  have E1 := Lib.hid (below_step hb1 E0.out (by omega))
  have X1 := Lib.hid (X0.out.below hb1 (by omega))
  have H11 := Lib.hid (H10.out.below hb1 (by omega))
  have H21 := Lib.hid (H20.out.below hb1 (by omega))
  have G1 := Lib.hid (G0.out.below hb1 (by omega))
  have J1 := Lib.hid (J0.out.below hb1 (by omega))
  clear hb1 H10 H20 G0 J0 X0 E0
  cases hg : goodB D p S q R Q z
  · have HO : Hid (fbOut D p S q R Q z = (Bv.zero, 5)) := by show _ = _; simp [fbOut, hg]
    clear hg
    have r0 := (R1.out.2 0 _ rfl).1; have r1 := (R1.out.2 1 _ rfl).1; have r2 := (R1.out.2 2 _ rfl).1; have r3 := (R1.out.2 3 _ rfl).1; have r4 := (R1.out.2 4 _ rfl).1; have r5 := (R1.out.2 5 _ rfl).1; have r6 := (R1.out.2 6 _ rfl).1
    have g0 := (R1.out.2 0 _ rfl).2; have g1 := (R1.out.2 1 _ rfl).2; have g2 := (R1.out.2 2 _ rfl).2; have g3 := (R1.out.2 3 _ rfl).2; have g4 := (R1.out.2 4 _ rfl).2; have g5 := (R1.out.2 5 _ rfl).2; have g6 := (R1.out.2 6 _ rfl).2
    go_wp2
    refine bodyPost_ret (v := .tuple #[.agg #[.slice none 0 0, .int .i64 0, .slice none 0 0, .int .i64 0, .slice none 0 0, .slice none 0 0, .int .i64 0], .int .i64 5]) (by simp [results, Tryd.results32, go_sem, r0, g0, r1, g1, r2, g2, r3, g3, r4, g4, r5, g5, r6, g6]) rfl ?_
    rw [HO.out]
    refine PostBI.zero ?_
    (repeat (with_reducible refine below_set ?_ (by omega) _))
    exact E1.out
  · have HO : Hid (fbOut D p S q R Q z = (bvOf S R z (fuGo S Q.length D p q.toNat Q), (fuGo S Q.length D p q.toNat Q).st)) := by show _ = _; simp [fbOut, hg]
    obtain ⟨k1, k2, k3, k4, k5⟩ := goodB_start hg
    obtain ⟨q0, rfl⟩ := Int.eq_ofNat_of_zero_le k5
    rw [Int.toNat_natCast] at HO k2 k3
    have hl := validB_len k1
    obtain ⟨l1, l2, l3, l4, hp, _, hz⟩ := hl
    obtain ⟨i1, i2, i3, i4, i5⟩ := fuGo_valid Q.length D p q0 Q k2 k4 (by omega)
    have hn60 : n ≤ 60 := by rw [HL.out]; exact l1
    have hn12 : n' ≤ 12 := by rw [HL'.out]; exact l2
    have hn16 : n2 ≤ 16 := by rw [HG.out]; exact l3
    have hn16' : n3 ≤ 16 := by rw [HQ.out]; exact l4
    have HV := Lib.hid k2
    have HA := Lib.hid k4
    clear hg k1 k2 k4
    have x0 := (X1.out.2 0 _ rfl).1; have x1 := (X1.out.2 1 _ rfl).1; have x2 := (X1.out.2 2 _ rfl).1; have x3 := (X1.out.2 3 _ rfl).1; have x4 := (X1.out.2 4 _ rfl).1; have x5 := (X1.out.2 5 _ rfl).1; have x6 := (X1.out.2 6 _ rfl).1
    go_wp2_with fail
    clear x0 x1 x2 x3 x4 x5 x6
    refine (sCopyBoth_any H11.out H21.out G1.out J1.out (by omega) (by omega) (by omega) (by omega) (by omega) (by omega) (by omega) (by omega) (by unfold okInt; omega) (by unfold okInt; omega) (by unfold okInt; omega)).mono ?_
    rintro e w2 ⟨A4, n4, c4, A4', n4', c4', A5, n5, c5, A6, n6, c6, rfl, ⟨hc4, hc4', hc5, hc6⟩, hb2, ⟨⟨hd, hd', ha, _, _⟩, hr, ha1, ha2, _⟩, ho, ha3, ha4, ha5⟩
    have s2 := hb2.size
    have D2 := Lib.hid hd
    have D2' := Lib.hid hd'
    have G2 := Lib.hid hr
    have J2 := Lib.hid ho
    have HAP := Lib.hid (And.intro ha (And.intro ha1 (And.intro ha2 (And.intro ha3 (And.intro ha4 ha5)))))
    have R2 := Lib.hid (R1.out.below hb2 (by omega))
    have E2 := Lib.hid (below_step hb2 E1.out (by omega))
    clear hb2 hd hd' hr ho ha ha1 ha2 ha3 ha4 ha5 R1 E1 H11 H21 G1 J1 X1
    have hflush := flushBoth_any (z := z) (c' := c4') (A2 := A5) (n2 := n5) (c2 := c5) D2.out D2'.out J2.out (Nat.le_refl _) (Nat.le_refl _) (Nat.le_refl _) HAP.out.2.2.2.1 hc4 hc6 HV.out (by omega) (by omega) HA.out
    generalize fuGo S Q.length D p q0 Q = T at *
    have HF := Lib.hid hflush
    have HI1 := Lib.hid i1
    clear hflush i1
    go_wp2_with fail
    refine HF.out.mono ?_
    rintro e w3 ⟨A7, n7, c7, A8, n8, c8, M7, C7, M8, C8, rfl, ⟨hc7, hc8⟩, hb3, ⟨hi7, hi8⟩, ⟨hC7, hC8⟩, hor7, hor8, hap⟩
    have s3 := hb3.size
    have AP3 : Hid (Apart A7 n7 A4' n4' ∧ Apart A5 n5 A7 n7 ∧ Apart A8 n8 A4' n4' ∧ Apart A8 n8 A5 n5) := by
      show _ ∧ _ ∧ _ ∧ _
      refine ⟨?_, ?_, ?_, ?_⟩
      · rcases hor7 with ⟨rfl, rfl, _, _⟩ | h
        · exact HAP.out.1
        · exact (Apart.of_le D2'.out hi7 (by omega)).symm
      · rcases hor7 with ⟨rfl, rfl, _, _⟩ | h
        · exact HAP.out.2.1
        · exact Apart.of_le G2.out hi7 (by omega)
      · rcases hor8 with ⟨rfl, rfl, _, _⟩ | h
        · exact HAP.out.2.2.2.2.1
        · exact (Apart.of_le D2'.out hi8 (by omega)).symm
      · rcases hor8 with ⟨rfl, rfl, _, _⟩ | h
        · exact HAP.out.2.2.2.2.2
        · exact (Apart.of_le G2.out hi8 (by omega)).symm
    have hM7 : w1.heap.size ≤ M7 := by rcases hor7 with ⟨_, _, rfl, _⟩ | h <;> omega
    have hM8 : w1.heap.size ≤ M8 := by rcases hor8 with ⟨_, _, rfl, _⟩ | h <;> omega
    have K1 := Lib.hid hi7
    have K2 := Lib.hid (D2'.out.below hb3 (Nat.le_refl _))
    have K3 := Lib.hid (G2.out.below hb3 (Nat.le_refl _))
    have K4 := Lib.hid hi8
    have HAP3 := Lib.hid hap
    have R3 := Lib.hid (R2.out.below hb3 (by omega))
    have E3 := Lib.hid (below_step hb3 E2.out (by omega))
    clear hb3 hi7 hi8 hor7 hor8 hap R2 E2 HF D2 D2' G2 J2
    have r0 := (R3.out.2 0 _ rfl).1; have r1 := (R3.out.2 1 _ rfl).1; have r2 := (R3.out.2 2 _ rfl).1; have r3 := (R3.out.2 3 _ rfl).1; have r4 := (R3.out.2 4 _ rfl).1; have r5 := (R3.out.2 5 _ rfl).1; have r6 := (R3.out.2 6 _ rfl).1
    have g0 := (R3.out.2 0 _ rfl).2; have g1 := (R3.out.2 1 _ rfl).2; have g2 := (R3.out.2 2 _ rfl).2; have g3 := (R3.out.2 3 _ rfl).2; have g4 := (R3.out.2 4 _ rfl).2; have g5 := (R3.out.2 5 _ rfl).2; have g6 := (R3.out.2 6 _ rfl).2
    go_wp2
    refine bodyPost_ret (v := .tuple #[.agg #[.slice (A7) n7 c7, .int .i64 (T.p), .slice (A4') n4' c4', .int .i64 ((T.q : Int)), .slice (A5) n5 c5, .slice (A8) n8 c8, .int .i64 (z)], .int .i64 T.st]) (by simp [results, Tryd.results32, go_sem, r0, g0, r1, g1, r2, g2, r3, g3, r4, g4, r5, g5, r6, g6]) rfl ?_
    rw [HO.out]
    obtain ⟨_, _, _, hp9, hq9⟩ := validD_iff.1 HI1.out
    refine ⟨_, _, _, _, _, _, _, _, _, _, _, _, rfl, ⟨hc7, hc4', hc5, hc8⟩, ?_, ⟨⟨⟨?_, ?_, AP3.out.1, by unfold okInt; show _ ≤ T.p ∧ T.p ≤ _; omega, by unfold okInt; show _ ≤ (T.q : Int) ∧ (T.q : Int) ≤ _; omega⟩, ?_, AP3.out.2.1, HAP.out.2.2.1, by unfold okInt; show _ ≤ z ∧ z ≤ _; omega⟩, ?_, HAP3.out, AP3.out.2.2.1, AP3.out.2.2.2⟩⟩
    · (repeat (with_reducible refine below_set ?_ (by omega) _))
      exact E3.out
    · simp only [World.size_setCell]
      refine Ints.more (lo := M7) (hi := C7) ?_ (by omega) (by omega)
      (repeat (with_reducible refine Ints.set_ ?_ (by omega) _))
      exact K1.out
    · simp only [World.size_setCell]
      refine Ints.more (lo := w1.heap.size) (hi := w2.heap.size) ?_ (by omega) (by omega)
      (repeat (with_reducible refine Ints.set_ ?_ (by omega) _))
      exact K2.out
    · simp only [World.size_setCell]
      refine Ints.more (lo := w1.heap.size) (hi := w2.heap.size) ?_ (by omega) (by omega)
      (repeat (with_reducible refine Ints.set_ ?_ (by omega) _))
      exact K3.out
    · simp only [World.size_setCell]
      refine Ints.more (lo := M8) (hi := C8) ?_ (by omega) (by omega)
      (repeat (with_reducible refine Ints.set_ ?_ (by omega) _))
      exact K4.out
end Go.Proofs.YtphkkalkajleiaaDoor
