/- Contracts of files that are read and written, the program's: what is valid; a file at work; NewBoth, TellBoth, PlainOf. -/
import Derived.Test.YtdiebkaedjlckaaC4a
import Derived.Test.YtdiebkaedjlckaaC3b
import Derived.Test.YtdiebkaedjlckaaC2c
namespace Go.Proofs.Ytdiebkaedjlckaa
open Go.ChangeShapes Go.WideShapes Go.ChangeAt Go.RowKit
set_option linter.unusedSimpArgs false
set_option linter.unusedVariables false
set_option maxRecDepth 10000

/-- A file's data. -/
structure Bv where
  d : List Int
  p : Int
  s : List Int
  q : Int
  r : List Int
  o : List Int
  z : Int
def Bv.zero : Bv := ⟨[], 0, [], 0, [], [], 0⟩
/-- A file's numbers are valid. -/
def validB (D : List Int) (p : Int) (S : List Int) (q : Int) (R Q : List Int) (z : Int) : Bool := validR D p S q R z && (validW D p S q Q z && (decide (R.length = 0) || decide (Q.length = 0)))
theorem validB_iff {D S R Q : List Int} {p q z : Int} : validB D p S q R Q z = true ↔ validR D p S q R z = true ∧ validW D p S q Q z = true ∧ (R.length = 0 ∨ Q.length = 0) := by simp [validB]
theorem validB_len {D S R Q : List Int} {p q z : Int} (h : validB D p S q R Q z = true) : D.length ≤ 60 ∧ S.length ≤ 12 ∧ R.length ≤ 16 ∧ Q.length ≤ 16 ∧ (0 ≤ p ∧ p ≤ 60) ∧ (0 ≤ q ∧ q ≤ 1000) ∧ (1 ≤ z ∧ z ≤ 16) := by
  obtain ⟨hr, hw, _⟩ := validB_iff.1 h
  obtain ⟨hd, hz, hRz, _⟩ := validR_iff.1 hr
  obtain ⟨_, _, hQz, _⟩ := validW_iff.1 hw
  obtain ⟨hb, hs, _, hp, hq⟩ := validD_iff.1 hd
  exact ⟨bytesB_le hb, hs, by omega, by omega, hp, hq, hz⟩
def tellBOut (D : List Int) (p : Int) (S : List Int) (q : Int) (R Q : List Int) (z : Int) : Int := if validB D p S q R Q z then p - (R.length : Int) + (Q.length : Int) else -1
def poOut (D : List Int) (p : Int) (S : List Int) (q : Int) (R Q : List Int) (z : Int) : Pv := if validB D p S q R Q z then ⟨seenOut D p S q Q z, p - (R.length : Int) + (Q.length : Int)⟩ else .zero
theorem poOut_le (D : List Int) (p : Int) (S : List Int) (q : Int) (R Q : List Int) (z : Int) : (poOut D p S q R Q z).d.length ≤ 60 := by
  unfold poOut
  split
  · exact seenOut_le D p S q Q z
  · decide
def newBOut (D : List Int) (p : Int) (S : List Int) (q z : Int) : Bv × Bool := if validB D p S q [] [] z then (⟨D, p, S, q, [], [], z⟩, true) else (.zero, false)
theorem newBOut_le (D : List Int) (p : Int) (S : List Int) (q z : Int) : (newBOut D p S q z).1.d.length ≤ 60 ∧ (newBOut D p S q z).1.s.length ≤ 60 ∧ (newBOut D p S q z).1.r.length ≤ 60 ∧ (newBOut D p S q z).1.o.length ≤ 60 := by
  unfold newBOut
  split
  · have h := validB_len ‹_›
    exact ⟨h.1, by show S.length ≤ 60; omega, by show ([] : List Int).length ≤ 60; simp, by show ([] : List Int).length ≤ 60; simp⟩
  · exact ⟨by decide, by decide, by decide, by decide⟩
/-- A file in new memory, its four slices apart. -/
def BotB (w : World) (lo hi : Nat) (A : Option Addr) (n : Nat) (A' : Option Addr) (n' : Nat) (A2 : Option Addr) (n2 : Nat) (A3 : Option Addr) (n3 : Nat) (o : Bv) : Prop :=
  RdrIn w lo hi A n A' n' A2 n2 o.d o.p o.s o.q o.r o.z ∧ Ints w lo hi A3 n3 o.o ∧ Apart A3 n3 A n ∧ Apart A3 n3 A' n' ∧ Apart A3 n3 A2 n2
def Post2B (o : Bv × Bool) (w : World) (e : Ending) (w' : World) : Prop :=
  ∃ A n c A' n' c' A2 n2 c2 A3 n3 c3, e = .returned (.tuple #[.agg #[.slice (A) n c, .int .i64 (o.1.p), .slice (A') n' c', .int .i64 (o.1.q), .slice (A2) n2 c2, .slice (A3) n3 c3, .int .i64 (o.1.z)], .bool o.2]) ∧ (n ≤ c ∧ n' ≤ c' ∧ n2 ≤ c2 ∧ n3 ≤ c3) ∧ Below w.heap.size w w' ∧ BotB w' w.heap.size w'.heap.size A n A' n' A2 n2 A3 n3 o.1
theorem Post2B.zero {w w' : World} (hb : Below w.heap.size w w') : Post2B (Bv.zero, false) w (.returned (.tuple #[.agg #[.slice none 0 0, .int .i64 0, .slice none 0 0, .int .i64 0, .slice none 0 0, .slice none 0 0, .int .i64 0], .bool false])) w' :=
  ⟨none, 0, 0, none, 0, 0, none, 0, 0, none, 0, 0, rfl, ⟨Nat.le_refl _, Nat.le_refl _, Nat.le_refl _, Nat.le_refl _⟩, hb, ⟨DevIn.zero _ _ _, (Ints.nil _ _ _ 0 _).1, fun h => absurd h (by omega), fun h => absurd h (by omega), by unfold okInt; show _ ≤ (0 : Int) ∧ (0 : Int) ≤ _; omega⟩, (Ints.nil _ _ _ 0 _).1, fun h => absurd h (by omega), fun h => absurd h (by omega), fun h => absurd h (by omega)⟩
def PostP (o : Pv) (w : World) (e : Ending) (w' : World) : Prop :=
  ∃ A n c, e = .returned (.agg #[.slice (A) n c, .int .i64 (o.p)]) ∧ n ≤ c ∧ Below w.heap.size w w' ∧ Ints w' w.heap.size w'.heap.size A n o.d ∧ okInt o.p
/-- A file at work, in memory of its own. -/
def FilePost (D : List Int) (p : Int) (S : List Int) (q : Int) (R Q : List Int) (z : Int) (w : World) (e : Ending) (w' : World) : Prop :=
  ∃ b A n c A' n' c' A2 n2 c2 A3 n3 c3, e = .returned (.pointer (some ⟨b, 0, none⟩)) ∧ (n ≤ c ∧ n' ≤ c' ∧ n2 ≤ c2 ∧ n3 ≤ c3) ∧ Below w.heap.size w w' ∧ w.heap.size ≤ b ∧ Box w' b [.slice (A) n c, .int .i64 (p), .slice (A') n' c', .int .i64 (q), .slice (A2) n2 c2, .slice (A3) n3 c3, .int .i64 (z)] ∧ Ints w' w.heap.size b A n D ∧ Ints w' w.heap.size b A' n' S ∧ Ints w' w.heap.size b A2 n2 R ∧ Ints w' w.heap.size b A3 n3 Q ∧
    (Apart A n A' n' ∧ Apart A2 n2 A n ∧ Apart A2 n2 A' n' ∧ Apart A3 n3 A n ∧ Apart A3 n3 A' n' ∧ Apart A3 n3 A2 n2)
theorem keep7 {w : World} {b c o : Nat} {v u0 u1 u2 u3 u4 u5 u6 : Value} (h : w.cell? ⟨b, o, none⟩ = some v) (hne : b ≠ c) :
    (((((((w.setCell ⟨c, 0, none⟩ u0).setCell ⟨c, 1, none⟩ u1).setCell ⟨c, 2, none⟩ u2).setCell ⟨c, 3, none⟩ u3).setCell ⟨c, 4, none⟩ u4).setCell ⟨c, 5, none⟩ u5).setCell ⟨c, 6, none⟩ u6).drew.cell? ⟨b, o, none⟩ = some v := by
  refine (World.cell?_of_block (w := w) (a := ⟨b, o, none⟩) ?_).trans h
  rw [show ∀ W : World, W.drew.heap = W.heap from fun _ => rfl, Below.heap_setCell _ ⟨c, 6, none⟩ u6 b hne, Below.heap_setCell _ ⟨c, 5, none⟩ u5 b hne, Below.heap_setCell _ ⟨c, 4, none⟩ u4 b hne, Below.heap_setCell _ ⟨c, 3, none⟩ u3 b hne, Below.heap_setCell _ ⟨c, 2, none⟩ u2 b hne, Below.heap_setCell _ ⟨c, 1, none⟩ u1 b hne, Below.heap_setCell _ ⟨c, 0, none⟩ u0 b hne]

set_option maxHeartbeats 1000000 in
theorem writerOf_any {A A' A2 A3 : Option Addr} {n c n' c' n2 c2 n3 c3 : Nat} {p q z : Int} {w : World} :
    Calls Try.prog 38 #[.agg #[.slice (A) n c, .int .i64 (p), .slice (A') n' c', .int .i64 (q), .slice (A2) n2 c2, .slice (A3) n3 c3, .int .i64 (z)]] w (fun e w' => e = .returned (.agg #[.slice (A) n c, .int .i64 (p), .slice (A') n' c', .int .i64 (q), .slice (A3) n3 c3, .int .i64 (z)]) ∧ Below w.heap.size w w') := by
  have X0 : Hid (Box ((w.alloc (.cells #[.slice (A) n c, .int .i64 (p), .slice (A') n' c', .int .i64 (q), .slice (A2) n2 c2, .slice (A3) n3 c3, .int .i64 (z)] 29)).alloc (.cells #[.slice none 0 0, .int .i64 0, .slice none 0 0, .int .i64 0, .slice none 0 0, .int .i64 0] 67)) w.heap.size [.slice (A) n c, .int .i64 (p), .slice (A') n' c', .int .i64 (q), .slice (A2) n2 c2, .slice (A3) n3 c3, .int .i64 (z)]) := (Box.new w 29 [.slice (A) n c, .int .i64 (p), .slice (A') n' c', .int .i64 (q), .slice (A2) n2 c2, .slice (A3) n3 c3, .int .i64 (z)]).alloc _
  have R0 : Hid (Box ((w.alloc (.cells #[.slice (A) n c, .int .i64 (p), .slice (A') n' c', .int .i64 (q), .slice (A2) n2 c2, .slice (A3) n3 c3, .int .i64 (z)] 29)).alloc (.cells #[.slice none 0 0, .int .i64 0, .slice none 0 0, .int .i64 0, .slice none 0 0, .int .i64 0] 67)) (w.heap.size + 1) [.slice none 0 0, .int .i64 0, .slice none 0 0, .int .i64 0, .slice none 0 0, .int .i64 0]) := by
    have hx := Box.new (w.alloc (.cells #[.slice (A) n c, .int .i64 (p), .slice (A') n' c', .int .i64 (q), .slice (A2) n2 c2, .slice (A3) n3 c3, .int .i64 (z)] 29)) 67 [.slice none 0 0, .int .i64 0, .slice none 0 0, .int .i64 0, .slice none 0 0, .int .i64 0]
    rw [World.size_alloc] at hx
    exact hx
  have E0 : Hid (Below w.heap.size w ((w.alloc (.cells #[.slice (A) n c, .int .i64 (p), .slice (A') n' c', .int .i64 (q), .slice (A2) n2 c2, .slice (A3) n3 c3, .int .i64 (z)] 29)).alloc (.cells #[.slice none 0 0, .int .i64 0, .slice none 0 0, .int .i64 0, .slice none 0 0, .int .i64 0] 67))) := (by go_grown : Below w.heap.size w _)
  have s0 : (((w.alloc (.cells #[.slice (A) n c, .int .i64 (p), .slice (A') n' c', .int .i64 (q), .slice (A2) n2 c2, .slice (A3) n3 c3, .int .i64 (z)] 29)).alloc (.cells #[.slice none 0 0, .int .i64 0, .slice none 0 0, .int .i64 0, .slice none 0 0, .int .i64 0] 67))).heap.size = w.heap.size + 2 := by simp
  have x0 := (X0.out.2 0 _ rfl).1; have x1 := (X0.out.2 1 _ rfl).1; have x2 := (X0.out.2 2 _ rfl).1; have x3 := (X0.out.2 3 _ rfl).1; have x4 := (X0.out.2 4 _ rfl).1; have x5 := (X0.out.2 5 _ rfl).1; have x6 := (X0.out.2 6 _ rfl).1
  have r0 := (R0.out.2 0 _ rfl).1; have r1 := (R0.out.2 1 _ rfl).1; have r2 := (R0.out.2 2 _ rfl).1; have r3 := (R0.out.2 3 _ rfl).1; have r4 := (R0.out.2 4 _ rfl).1; have r5 := (R0.out.2 5 _ rfl).1
  have g0 := (R0.out.2 0 _ rfl).2; have g1 := (R0.out.2 1 _ rfl).2; have g2 := (R0.out.2 2 _ rfl).2; have g3 := (R0.out.2 3 _ rfl).2; have g4 := (R0.out.2 4 _ rfl).2; have g5 := (R0.out.2 5 _ rfl).2
  go_enter Try.func38, Try.ntmps38
  go_upto_region 1 with (fail)
  generalize ((w.alloc (.cells #[.slice (A) n c, .int .i64 (p), .slice (A') n' c', .int .i64 (q), .slice (A2) n2 c2, .slice (A3) n3 c3, .int .i64 (z)] 29)).alloc (.cells #[.slice none 0 0, .int .i64 0, .slice none 0 0, .int .i64 0, .slice none 0 0, .int .i64 0] 67)) = w0 at *
  go_wp2
  refine bodyPost_ret (v := .agg #[.slice (A) n c, .int .i64 (p), .slice (A') n' c', .int .i64 (q), .slice (A3) n3 c3, .int .i64 (z)]) (by simp [results, Try.results38, go_sem, r0, r1, r2, r3, r4, r5, g0, g1, g2, g3, g4, g5]) rfl ?_
  refine ⟨rfl, ?_⟩
  (repeat (with_reducible refine below_set ?_ (by omega) _))
  exact E0.out
set_option maxHeartbeats 2000000 in
theorem ValidBoth_any {A A' A2 A3 : Option Addr} {n c n' c' n2 c2 n3 c3 : Nat} {D S R Q : List Int} {p q z : Int} {w : World} {L L' B B' M C U V : Nat} (h : Ints w L B A n D) (h' : Ints w L' B' A' n' S) (g : Ints w M C A2 n2 R) (j : Ints w U V A3 n3 Q) (hB : B ≤ w.heap.size) (hB' : B' ≤ w.heap.size) (hC : C ≤ w.heap.size) (hV : V ≤ w.heap.size) (hnc : n ≤ c) :
    Calls Try.prog 14 #[.agg #[.slice (A) n c, .int .i64 (p), .slice (A') n' c', .int .i64 (q), .slice (A2) n2 c2, .slice (A3) n3 c3, .int .i64 (z)]] w (BoolB (validB D p S q R Q z) w) := by
  have HQ := Lib.hid j.len
  have HG := Lib.hid g.len
  have HL := Lib.hid h.len
  have HL' := Lib.hid h'.len
  have H10 := Lib.hid (h.alloc hB (.cells #[.slice (A) n c, .int .i64 (p), .slice (A') n' c', .int .i64 (q), .slice (A2) n2 c2, .slice (A3) n3 c3, .int .i64 (z)] 29))
  have H20 := Lib.hid (h'.alloc hB' (.cells #[.slice (A) n c, .int .i64 (p), .slice (A') n' c', .int .i64 (q), .slice (A2) n2 c2, .slice (A3) n3 c3, .int .i64 (z)] 29))
  have G0 := Lib.hid (g.alloc hC (.cells #[.slice (A) n c, .int .i64 (p), .slice (A') n' c', .int .i64 (q), .slice (A2) n2 c2, .slice (A3) n3 c3, .int .i64 (z)] 29))
  have J0 := Lib.hid (j.alloc hV (.cells #[.slice (A) n c, .int .i64 (p), .slice (A') n' c', .int .i64 (q), .slice (A2) n2 c2, .slice (A3) n3 c3, .int .i64 (z)] 29))
  have X0 := Lib.hid (Box.new w 29 [.slice (A) n c, .int .i64 (p), .slice (A') n' c', .int .i64 (q), .slice (A2) n2 c2, .slice (A3) n3 c3, .int .i64 (z)])
  have E0 : Hid (Below w.heap.size w (w.alloc (.cells #[.slice (A) n c, .int .i64 (p), .slice (A') n' c', .int .i64 (q), .slice (A2) n2 c2, .slice (A3) n3 c3, .int .i64 (z)] 29))) := (by go_grown : Below w.heap.size w _)
  have s0 : (w.alloc (.cells #[.slice (A) n c, .int .i64 (p), .slice (A') n' c', .int .i64 (q), .slice (A2) n2 c2, .slice (A3) n3 c3, .int .i64 (z)] 29)).heap.size = w.heap.size + 1 := by simp
  clear h h' g j
  have x0 := (X0.out.2 0 _ rfl).1; have x1 := (X0.out.2 1 _ rfl).1; have x2 := (X0.out.2 2 _ rfl).1; have x3 := (X0.out.2 3 _ rfl).1; have x4 := (X0.out.2 4 _ rfl).1; have x5 := (X0.out.2 5 _ rfl).1; have x6 := (X0.out.2 6 _ rfl).1
  go_enter Try.func14, Try.ntmps14
  go_wp2_with fail
  generalize w.alloc (.cells #[.slice (A) n c, .int .i64 (p), .slice (A') n' c', .int .i64 (q), .slice (A2) n2 c2, .slice (A3) n3 c3, .int .i64 (z)] 29) = w0 at *
  clear x0 x1 x2 x3 x4 x5 x6
  refine (ValidReader_any H10.out H20.out G0.out (by omega) (by omega) (by omega) hnc).mono ?_
  rintro e w1 ⟨rfl, hb1⟩
  have s1 := hb1.size
  have E1 := Lib.hid (below_step hb1 E0.out (by omega))
  have X1 := Lib.hid (X0.out.below hb1 (by omega))
  have H11 := Lib.hid (H10.out.below hb1 (by omega))
  have H21 := Lib.hid (H20.out.below hb1 (by omega))
  have G1 := Lib.hid (G0.out.below hb1 (by omega))
  have J1 := Lib.hid (J0.out.below hb1 (by omega))
  clear hb1 H10 H20 G0 J0 X0 E0
  have x0 := (X1.out.2 0 _ rfl).1; have x1 := (X1.out.2 1 _ rfl).1; have x2 := (X1.out.2 2 _ rfl).1; have x3 := (X1.out.2 3 _ rfl).1; have x4 := (X1.out.2 4 _ rfl).1; have x5 := (X1.out.2 5 _ rfl).1; have x6 := (X1.out.2 6 _ rfl).1
  cases hv : validR D p S q R z
  · go_wp2
    go_ret
    exact ⟨ret_bool (by simp [validB, hv]), E1.out⟩
  · have HV := Lib.hid hv
    clear hv
    go_wp2_with fail
    clear x0 x1 x2 x3 x4 x5 x6
    refine writerOf_any.mono ?_
    rintro e w2 ⟨rfl, hb2⟩
    have s2 := hb2.size
    have E2 := Lib.hid (below_step hb2 E1.out (by omega))
    have X2 := Lib.hid (X1.out.below hb2 (by omega))
    have H12 := Lib.hid (H11.out.below hb2 (by omega))
    have H22 := Lib.hid (H21.out.below hb2 (by omega))
    have G2 := Lib.hid (G1.out.below hb2 (by omega))
    have J2 := Lib.hid (J1.out.below hb2 (by omega))
    clear hb2 H11 H21 G1 J1 X1 E1
    have x0 := (X2.out.2 0 _ rfl).1; have x1 := (X2.out.2 1 _ rfl).1; have x2 := (X2.out.2 2 _ rfl).1; have x3 := (X2.out.2 3 _ rfl).1; have x4 := (X2.out.2 4 _ rfl).1; have x5 := (X2.out.2 5 _ rfl).1; have x6 := (X2.out.2 6 _ rfl).1
    go_wp2_with fail
    clear x0 x1 x2 x3 x4 x5 x6
    refine (ValidWriter_any H12.out H22.out J2.out (by omega) (by omega) (by omega) hnc).mono ?_
    rintro e w3 ⟨rfl, hb3⟩
    have s3 := hb3.size
    have E3 := Lib.hid (below_step hb3 E2.out (by omega))
    have X3 := Lib.hid (X2.out.below hb3 (by omega))
    have H13 := Lib.hid (H12.out.below hb3 (by omega))
    have H23 := Lib.hid (H22.out.below hb3 (by omega))
    have G3 := Lib.hid (G2.out.below hb3 (by omega))
    have J3 := Lib.hid (J2.out.below hb3 (by omega))
    clear hb3 H12 H22 G2 J2 X2 E2
    have x0 := (X3.out.2 0 _ rfl).1; have x1 := (X3.out.2 1 _ rfl).1; have x2 := (X3.out.2 2 _ rfl).1; have x3 := (X3.out.2 3 _ rfl).1; have x4 := (X3.out.2 4 _ rfl).1; have x5 := (X3.out.2 5 _ rfl).1; have x6 := (X3.out.2 6 _ rfl).1
    cases hw : validW D p S q Q z
    · go_wp2
      go_ret
      exact ⟨ret_bool (by simp [validB, hw]), E3.out⟩
    · have HW := Lib.hid hw
      clear hw
      by_cases h2 : n2 = 0
      · have HF : Hid (validB D p S q R Q z = true) := by
          show _ = _
          have := HG.out
          simp [validB, HV.out, HW.out, ← this, h2]
        subst h2
        go_wp2
        go_ret
        exact ⟨ret_bool HF.out.symm, E3.out⟩
      · have h2z : ((n2 : Int) == 0) = false := by simp; omega
        by_cases h3 : n3 = 0
        · have HF : Hid (validB D p S q R Q z = true) := by
            show _ = _
            have := HQ.out
            simp [validB, HV.out, HW.out, ← this, h3]
          subst h3
          go_wp2
          go_ret
          exact ⟨ret_bool HF.out.symm, E3.out⟩
        · have h3z : ((n3 : Int) == 0) = false := by simp; omega
          have HF : Hid (validB D p S q R Q z = false) := by
            show _ = _
            have hq := HQ.out
            have hg := HG.out
            have a1 : ¬ R.length = 0 := by omega
            have a2 : ¬ Q.length = 0 := by omega
            unfold validB
            rw [decide_eq_false a1, decide_eq_false a2]
            simp
          go_wp2
          go_ret
          exact ⟨ret_bool HF.out.symm, E3.out⟩
theorem ValidBoth_x {A A' A2 A3 : Option Addr} {n c n' c' n2 c2 n3 c3 : Nat} {D S R Q : List Int} {p q z : Int} {w : World} {L L' B B' M C U V : Nat} (h : Ints w L B A n D) (h' : Ints w L' B' A' n' S) (g : Ints w M C A2 n2 R) (j : Ints w U V A3 n3 Q) (hB : B ≤ w.heap.size) (hB' : B' ≤ w.heap.size) (hC : C ≤ w.heap.size) (hV : V ≤ w.heap.size) (hc : n ≤ c) (_hc1 : n' ≤ c') (_hc2 : n2 ≤ c2) (hc3 : n3 ≤ c3) (_hn : n ≤ 1048576) (_hn1 : n' ≤ 1048576) (_hn2 : n2 ≤ 1048576) (_hn3 : n3 ≤ 1048576) :
    Calls Try.prog 14 #[.agg #[.slice (A) n c, .int .i64 (p), .slice (A') n' c', .int .i64 (q), .slice (A2) n2 c2, .slice (A3) n3 c3, .int .i64 (z)]] w (BoolB (validB D p S q R Q z) w) := ValidBoth_any h h' g j hB hB' hC hV hc
set_option maxHeartbeats 2000000 in
theorem TellBoth_any {A A' A2 A3 : Option Addr} {n c n' c' n2 c2 n3 c3 : Nat} {D S R Q : List Int} {p q z : Int} {w : World} {L L' B B' M C U V : Nat} (h : Ints w L B A n D) (h' : Ints w L' B' A' n' S) (g : Ints w M C A2 n2 R) (j : Ints w U V A3 n3 Q) (hB : B ≤ w.heap.size) (hB' : B' ≤ w.heap.size) (hC : C ≤ w.heap.size) (hV : V ≤ w.heap.size) (hnc : n ≤ c) :
    Calls Try.prog 39 #[.agg #[.slice (A) n c, .int .i64 (p), .slice (A') n' c', .int .i64 (q), .slice (A2) n2 c2, .slice (A3) n3 c3, .int .i64 (z)]] w (IntB (tellBOut D p S q R Q z) w) := by
  have HQ := Lib.hid j.len
  have HG := Lib.hid g.len
  have HL := Lib.hid h.len
  have HL' := Lib.hid h'.len
  have H10 := Lib.hid (h.alloc hB (.cells #[.slice (A) n c, .int .i64 (p), .slice (A') n' c', .int .i64 (q), .slice (A2) n2 c2, .slice (A3) n3 c3, .int .i64 (z)] 29))
  have H20 := Lib.hid (h'.alloc hB' (.cells #[.slice (A) n c, .int .i64 (p), .slice (A') n' c', .int .i64 (q), .slice (A2) n2 c2, .slice (A3) n3 c3, .int .i64 (z)] 29))
  have G0 := Lib.hid (g.alloc hC (.cells #[.slice (A) n c, .int .i64 (p), .slice (A') n' c', .int .i64 (q), .slice (A2) n2 c2, .slice (A3) n3 c3, .int .i64 (z)] 29))
  have J0 := Lib.hid (j.alloc hV (.cells #[.slice (A) n c, .int .i64 (p), .slice (A') n' c', .int .i64 (q), .slice (A2) n2 c2, .slice (A3) n3 c3, .int .i64 (z)] 29))
  have X0 := Lib.hid (Box.new w 29 [.slice (A) n c, .int .i64 (p), .slice (A') n' c', .int .i64 (q), .slice (A2) n2 c2, .slice (A3) n3 c3, .int .i64 (z)])
  have E0 : Hid (Below w.heap.size w (w.alloc (.cells #[.slice (A) n c, .int .i64 (p), .slice (A') n' c', .int .i64 (q), .slice (A2) n2 c2, .slice (A3) n3 c3, .int .i64 (z)] 29))) := (by go_grown : Below w.heap.size w _)
  have s0 : (w.alloc (.cells #[.slice (A) n c, .int .i64 (p), .slice (A') n' c', .int .i64 (q), .slice (A2) n2 c2, .slice (A3) n3 c3, .int .i64 (z)] 29)).heap.size = w.heap.size + 1 := by simp
  clear h h' g j
  have x0 := (X0.out.2 0 _ rfl).1; have x1 := (X0.out.2 1 _ rfl).1; have x2 := (X0.out.2 2 _ rfl).1; have x3 := (X0.out.2 3 _ rfl).1; have x4 := (X0.out.2 4 _ rfl).1; have x5 := (X0.out.2 5 _ rfl).1; have x6 := (X0.out.2 6 _ rfl).1
  go_enter Try.func39, Try.ntmps39
  go_wp2_with fail
  generalize w.alloc (.cells #[.slice (A) n c, .int .i64 (p), .slice (A') n' c', .int .i64 (q), .slice (A2) n2 c2, .slice (A3) n3 c3, .int .i64 (z)] 29) = w0 at *
  clear x0 x1 x2 x3 x4 x5 x6
  refine (ValidBoth_any H10.out H20.out G0.out J0.out (by omega) (by omega) (by omega) (by omega) hnc).mono ?_
  rintro e w1 ⟨rfl, hb1⟩
  have s1 := hb1.size
  have E1 := Lib.hid (below_step hb1 E0.out (by omega))
  have X1 := Lib.hid (X0.out.below hb1 (by omega))
  have H11 := Lib.hid (H10.out.below hb1 (by omega))
  have H21 := Lib.hid (H20.out.below hb1 (by omega))
  have G1 := Lib.hid (G0.out.below hb1 (by omega))
  have J1 := Lib.hid (J0.out.below hb1 (by omega))
  clear hb1 H10 H20 G0 J0 X0 E0
  have x0 := (X1.out.2 0 _ rfl).1; have x1 := (X1.out.2 1 _ rfl).1; have x2 := (X1.out.2 2 _ rfl).1; have x3 := (X1.out.2 3 _ rfl).1; have x4 := (X1.out.2 4 _ rfl).1; have x5 := (X1.out.2 5 _ rfl).1; have x6 := (X1.out.2 6 _ rfl).1
  cases hv : validB D p S q R Q z
  · go_wp2
    go_ret
    exact ⟨ret_int (by simp [tellBOut, hv]), E1.out⟩
  · have hl := validB_len hv
    have HO : Hid (tellBOut D p S q R Q z = p - (n2 : Int) + (n3 : Int)) := by show _ = _; simp [tellBOut, hv, HG.out, HQ.out]
    rw [← HG.out, ← HQ.out] at hl
    have hw1 : IntKind.i64.wrap (p - (n2 : Int)) = p - (n2 : Int) := IntWalk.i64_in _ (by omega)
    have hw2 : IntKind.i64.wrap (p - (n2 : Int) + (n3 : Int)) = p - (n2 : Int) + (n3 : Int) := IntWalk.i64_in _ (by omega)
    clear hv hl
    go_wp2
    go_ret
    exact ⟨ret_int HO.out.symm, E1.out⟩
theorem TellBoth_x {A A' A2 A3 : Option Addr} {n c n' c' n2 c2 n3 c3 : Nat} {D S R Q : List Int} {p q z : Int} {w : World} {L L' B B' M C U V : Nat} (h : Ints w L B A n D) (h' : Ints w L' B' A' n' S) (g : Ints w M C A2 n2 R) (j : Ints w U V A3 n3 Q) (hB : B ≤ w.heap.size) (hB' : B' ≤ w.heap.size) (hC : C ≤ w.heap.size) (hV : V ≤ w.heap.size) (hc : n ≤ c) (_hc1 : n' ≤ c') (_hc2 : n2 ≤ c2) (hc3 : n3 ≤ c3) (_hn : n ≤ 1048576) (_hn1 : n' ≤ 1048576) (_hn2 : n2 ≤ 1048576) (_hn3 : n3 ≤ 1048576) :
    Calls Try.prog 39 #[.agg #[.slice (A) n c, .int .i64 (p), .slice (A') n' c', .int .i64 (q), .slice (A2) n2 c2, .slice (A3) n3 c3, .int .i64 (z)]] w (IntB (tellBOut D p S q R Q z) w) := TellBoth_any h h' g j hB hB' hC hV hc
set_option maxHeartbeats 4000000 in
theorem fileOf_any {A A' A2 A3 : Option Addr} {n c n' c' n2 c2 n3 c3 : Nat} {D S R Q : List Int} {p q z : Int} {w : World} {L L' B B' M C U V : Nat} (h : Ints w L B A n D) (h' : Ints w L' B' A' n' S) (g : Ints w M C A2 n2 R) (j : Ints w U V A3 n3 Q) (hB : B ≤ w.heap.size) (hB' : B' ≤ w.heap.size) (hC : C ≤ w.heap.size) (hV : V ≤ w.heap.size)
    (hn : n ≤ 1048576) (hn' : n' ≤ 1048576) (hn2 : n2 ≤ 1048576) (hn3 : n3 ≤ 1048576) (hp : okInt p) (hq : okInt q) :
    Calls Try.prog 32 #[.agg #[.slice (A) n c, .int .i64 (p), .slice (A') n' c', .int .i64 (q), .slice (A2) n2 c2, .slice (A3) n3 c3, .int .i64 (z)]] w (FilePost D p S q R Q z w) := by
  have HQ := Lib.hid j.len
  have HG := Lib.hid g.len
  have HL := Lib.hid h.len
  have HL' := Lib.hid h'.len
  have H10 := Lib.hid (h.alloc hB (.cells #[.slice (A) n c, .int .i64 (p), .slice (A') n' c', .int .i64 (q), .slice (A2) n2 c2, .slice (A3) n3 c3, .int .i64 (z)] 29))
  have H20 := Lib.hid (h'.alloc hB' (.cells #[.slice (A) n c, .int .i64 (p), .slice (A') n' c', .int .i64 (q), .slice (A2) n2 c2, .slice (A3) n3 c3, .int .i64 (z)] 29))
  have G0 := Lib.hid (g.alloc hC (.cells #[.slice (A) n c, .int .i64 (p), .slice (A') n' c', .int .i64 (q), .slice (A2) n2 c2, .slice (A3) n3 c3, .int .i64 (z)] 29))
  have J0 := Lib.hid (j.alloc hV (.cells #[.slice (A) n c, .int .i64 (p), .slice (A') n' c', .int .i64 (q), .slice (A2) n2 c2, .slice (A3) n3 c3, .int .i64 (z)] 29))
  have X0 := Lib.hid (Box.new w 29 [.slice (A) n c, .int .i64 (p), .slice (A') n' c', .int .i64 (q), .slice (A2) n2 c2, .slice (A3) n3 c3, .int .i64 (z)])
  have E0 : Hid (Below w.heap.size w (w.alloc (.cells #[.slice (A) n c, .int .i64 (p), .slice (A') n' c', .int .i64 (q), .slice (A2) n2 c2, .slice (A3) n3 c3, .int .i64 (z)] 29))) := (by go_grown : Below w.heap.size w _)
  have s0 : (w.alloc (.cells #[.slice (A) n c, .int .i64 (p), .slice (A') n' c', .int .i64 (q), .slice (A2) n2 c2, .slice (A3) n3 c3, .int .i64 (z)] 29)).heap.size = w.heap.size + 1 := by simp
  clear h h' g j
  go_enter Try.func32, Try.ntmps32
  go_wp2_with fail
  generalize w.alloc (.cells #[.slice (A) n c, .int .i64 (p), .slice (A') n' c', .int .i64 (q), .slice (A2) n2 c2, .slice (A3) n3 c3, .int .i64 (z)] 29) = w0 at *
  have x0 := (X0.out.2 0 _ rfl).1; have x1 := (X0.out.2 1 _ rfl).1; have x2 := (X0.out.2 2 _ rfl).1; have x3 := (X0.out.2 3 _ rfl).1; have x4 := (X0.out.2 4 _ rfl).1; have x5 := (X0.out.2 5 _ rfl).1; have x6 := (X0.out.2 6 _ rfl).1
  go_region_held3 (fun w' => w'.cell? ⟨w.heap.size, 0, none⟩ = some (.slice A n c) ∧ w'.cell? ⟨w.heap.size, 1, none⟩ = some (.int .i64 p) ∧ w'.cell? ⟨w.heap.size, 2, none⟩ = some (.slice A' n' c') ∧ w'.cell? ⟨w.heap.size, 3, none⟩ = some (.int .i64 q) ∧ w'.cell? ⟨w.heap.size, 4, none⟩ = some (.slice A2 n2 c2) ∧ w'.cell? ⟨w.heap.size, 5, none⟩ = some (.slice A3 n3 c3) ∧ w'.cell? ⟨w.heap.size, 6, none⟩ = some (.int .i64 z)) (go_keep)
    (first | (go_at_call 49; refine (copyList_any J3.out (by omega) hn3).mono ?_; rintro e w3 ⟨A6, n6, c6, rfl, hc6, hb3, hi3⟩; (try simp only [World.size_alloc, World.size_setCell, World.size_drew] at hb3 hi3); have HB3 := Lib.hid hb3; have HI3 := Lib.hid hi3; have s3 := hb3.size; have X3 := Lib.hid (X2.out.below hb3 (by omega)); clear hb3 hi3; have x0 := (X3.out.2 0 _ rfl).1; have x1 := (X3.out.2 1 _ rfl).1; have x2 := (X3.out.2 2 _ rfl).1; have x3 := (X3.out.2 3 _ rfl).1; have x4 := (X3.out.2 4 _ rfl).1; have x5 := (X3.out.2 5 _ rfl).1; have x6 := (X3.out.2 6 _ rfl).1) | (go_at_call 49; refine (copyList_any G2.out (by omega) hn2).mono ?_; rintro e w2 ⟨A5, n5, c5, rfl, hc5, hb2, hi2⟩; (try simp only [World.size_alloc, World.size_setCell, World.size_drew] at hb2 hi2); have HB2 := Lib.hid hb2; have HI2 := Lib.hid hi2; have s2 := hb2.size; have X2 := Lib.hid (X1.out.below hb2 (by omega)); have J3 := Lib.hid (J2.out.below hb2 (by omega)); clear hb2 hi2; have x0 := (X2.out.2 0 _ rfl).1; have x1 := (X2.out.2 1 _ rfl).1; have x2 := (X2.out.2 2 _ rfl).1; have x3 := (X2.out.2 3 _ rfl).1; have x4 := (X2.out.2 4 _ rfl).1; have x5 := (X2.out.2 5 _ rfl).1; have x6 := (X2.out.2 6 _ rfl).1) | (go_at_call 54; refine (copyDevice_any H10.out.drew H20.out.drew (by first | omega | (simp; omega) | (simp; done)) (by first | omega | (simp; omega) | (simp; done)) hn hn' hp hq).mono ?_; rintro e w1 ⟨A4, n4, c4, A4', n4', c4', rfl, ⟨hc4, hc4'⟩, hb1, hd, hd', ha, _, _⟩; (try simp only [World.size_alloc, World.size_setCell, World.size_drew] at hb1 hd hd'); have HB1 := Lib.hid hb1; have D1 := Lib.hid hd; have D1' := Lib.hid hd'; have HA := Lib.hid ha; have s1 := hb1.size; (try simp only [World.size_alloc, World.size_setCell, World.size_drew] at s1); have X1 := Lib.hid (X0.out.drew.below hb1 (by omega)); have G2 := Lib.hid (G0.out.drew.below hb1 (by first | omega | (simp; omega) | (simp; done))); have J2 := Lib.hid (J0.out.drew.below hb1 (by first | omega | (simp; omega) | (simp; done))); clear hb1 hd hd' ha; have x0 := (X1.out.2 0 _ rfl).1; have x1 := (X1.out.2 1 _ rfl).1; have x2 := (X1.out.2 2 _ rfl).1; have x3 := (X1.out.2 3 _ rfl).1; have x4 := (X1.out.2 4 _ rfl).1; have x5 := (X1.out.2 5 _ rfl).1; have x6 := (X1.out.2 6 _ rfl).1))
  go_wp2
  go_ret
  have D2 := Lib.hid ((D1.out.below HB2.out (by omega)).below HB3.out (by omega))
  have D2' := Lib.hid ((D1'.out.below HB2.out (by omega)).below HB3.out (by omega))
  have I2 := Lib.hid (HI2.out.below HB3.out (by omega))
  have e1 : Below w.heap.size w w1 := below_step HB1.out E0.out.drew (by omega)
  have e3 : Below w.heap.size w w3 := below_step HB3.out (below_step HB2.out e1 (by omega)) (by omega)
  refine ⟨w3.heap.size, _, _, _, _, _, _, _, _, _, _, _, _, rfl, ⟨hc4, hc4', hc5, hc6⟩, e3.alloc (by omega) _, by omega, Box.new w3 _ [.slice (A4) n4 c4, .int .i64 (p), .slice (A4') n4' c4', .int .i64 (q), .slice (A5) n5 c5, .slice (A6) n6 c6, .int .i64 (z)], ?_, ?_, ?_, ?_, HA.out, (Apart.of_le D2.out I2.out (by omega)).symm, (Apart.of_le D2'.out I2.out (by omega)).symm, (Apart.of_le D2.out HI3.out (by omega)).symm, (Apart.of_le D2'.out HI3.out (by omega)).symm, (Apart.of_le I2.out HI3.out (by omega)).symm⟩
  · exact (D2.out.alloc (by omega) _).more (by omega) (by omega)
  · exact (D2'.out.alloc (by omega) _).more (by omega) (by omega)
  · exact (I2.out.alloc (by omega) _).more (by omega) (by omega)
  · exact (HI3.out.alloc (by omega) _).more (by omega) (by omega)
set_option maxHeartbeats 2000000 in
theorem both_any {A A' A2 A3 : Option Addr} {n c n' c' n2 c2 n3 c3 b : Nat} {p q z : Int} {w : World} (hX : Box w b [.slice (A) n c, .int .i64 (p), .slice (A') n' c', .int .i64 (q), .slice (A2) n2 c2, .slice (A3) n3 c3, .int .i64 (z)]) :
    Calls Try.prog 33 #[.pointer (some ⟨b, 0, none⟩)] w (fun e w' => e = .returned (.agg #[.slice (A) n c, .int .i64 (p), .slice (A') n' c', .int .i64 (q), .slice (A2) n2 c2, .slice (A3) n3 c3, .int .i64 (z)]) ∧ Below w.heap.size w w') := by
  have hlt := hX.lt
  have hne1 : b ≠ w.heap.size := by omega
  have HX := Lib.hid (hX.alloc (.cells #[.slice none 0 0, .int .i64 0, .slice none 0 0, .int .i64 0, .slice none 0 0, .slice none 0 0, .int .i64 0] 29))
  have R0 := Lib.hid (Box.new w 29 [.slice none 0 0, .int .i64 0, .slice none 0 0, .int .i64 0, .slice none 0 0, .slice none 0 0, .int .i64 0])
  have x0 := (HX.out.2 0 _ rfl).1; have x1 := (HX.out.2 1 _ rfl).1; have x2 := (HX.out.2 2 _ rfl).1; have x3 := (HX.out.2 3 _ rfl).1; have x4 := (HX.out.2 4 _ rfl).1; have x5 := (HX.out.2 5 _ rfl).1; have x6 := (HX.out.2 6 _ rfl).1
  have r0 := (R0.out.2 0 _ rfl).1; have r1 := (R0.out.2 1 _ rfl).1; have r2 := (R0.out.2 2 _ rfl).1; have r3 := (R0.out.2 3 _ rfl).1; have r4 := (R0.out.2 4 _ rfl).1; have r5 := (R0.out.2 5 _ rfl).1; have r6 := (R0.out.2 6 _ rfl).1
  have g0 := (R0.out.2 0 _ rfl).2; have g1 := (R0.out.2 1 _ rfl).2; have g2 := (R0.out.2 2 _ rfl).2; have g3 := (R0.out.2 3 _ rfl).2; have g4 := (R0.out.2 4 _ rfl).2; have g5 := (R0.out.2 5 _ rfl).2; have g6 := (R0.out.2 6 _ rfl).2
  have E0 : Hid (Below w.heap.size w (w.alloc (.cells #[.slice none 0 0, .int .i64 0, .slice none 0 0, .int .i64 0, .slice none 0 0, .slice none 0 0, .int .i64 0] 29))) := (by go_grown : Below w.heap.size w (w.alloc _))
  have s0 : w.heap.size < (w.alloc (.cells #[.slice none 0 0, .int .i64 0, .slice none 0 0, .int .i64 0, .slice none 0 0, .slice none 0 0, .int .i64 0] 29)).heap.size := by simp
  go_enter Try.func33, Try.ntmps33
  go_wp2
  generalize w.alloc (.cells #[.slice none 0 0, .int .i64 0, .slice none 0 0, .int .i64 0, .slice none 0 0, .slice none 0 0, .int .i64 0] 29) = w0 at *
  go_region_held3 (fun w' => w'.cell? ⟨b, 0, none⟩ = some (.slice A n c) ∧ w'.cell? ⟨b, 1, none⟩ = some (.int .i64 p) ∧ w'.cell? ⟨b, 2, none⟩ = some (.slice A' n' c') ∧ w'.cell? ⟨b, 3, none⟩ = some (.int .i64 q) ∧ w'.cell? ⟨b, 4, none⟩ = some (.slice A2 n2 c2) ∧ w'.cell? ⟨b, 5, none⟩ = some (.slice A3 n3 c3) ∧ w'.cell? ⟨b, 6, none⟩ = some (.int .i64 z)) (refine ⟨?_, ?_, ?_, ?_, ?_, ?_, ?_⟩ <;> first | (with_reducible assumption) | (with_reducible exact keep0 x0) | (with_reducible exact keep0 x1) | (with_reducible exact keep0 x2) | (with_reducible exact keep0 x3) | (with_reducible exact keep0 x4) | (with_reducible exact keep0 x5) | (with_reducible exact keep0 x6) | (with_reducible exact keep7 x0 hne1) | (with_reducible exact keep7 x1 hne1) | (with_reducible exact keep7 x2 hne1) | (with_reducible exact keep7 x3 hne1) | (with_reducible exact keep7 x4 hne1) | (with_reducible exact keep7 x5 hne1) | (with_reducible exact keep7 x6 hne1)) (fail)
  go_wp2
  refine bodyPost_ret (v := .agg #[.slice (A) n c, .int .i64 (p), .slice (A') n' c', .int .i64 (q), .slice (A2) n2 c2, .slice (A3) n3 c3, .int .i64 (z)]) (by simp [results, Try.results33, go_sem, r0, g0, r1, g1, r2, g2, r3, g3, r4, g4, r5, g5, r6, g6]) rfl ?_
  refine ⟨rfl, ?_⟩
  repeat (first | (with_reducible refine below_set ?_ (by omega) _) | (with_reducible refine Below.drew ?_))
  exact E0.out
set_option maxHeartbeats 4000000 in
theorem NewBoth_any {A A' : Option Addr} {n c n' c' : Nat} {D S : List Int} {p q z : Int} {w : World} {L L' B B' : Nat} (h : Ints w L B A n D) (h' : Ints w L' B' A' n' S) (hB : B ≤ w.heap.size) (hB' : B' ≤ w.heap.size) (hnc : n ≤ c) :
    Calls Try.prog 9 #[.agg #[.slice (A) n c, .int .i64 (p), .slice (A') n' c', .int .i64 (q)], .int .i64 z] w (Post2B (newBOut D p S q z) w) := by
  have HL := Lib.hid h.len
  have HL' := Lib.hid h'.len
  have H1 : Hid (Ints ((((w.alloc (.cells #[.slice (A) n c, .int .i64 (p), .slice (A') n' c', .int .i64 (q)] 25)).alloc (.cells #[.slice none 0 0, .int .i64 0, .slice none 0 0, .int .i64 0, .slice none 0 0, .slice none 0 0, .int .i64 0] 29)).alloc (.cells #[.slice (A) n c, .int .i64 (p), .slice (A') n' c', .int .i64 (q), .slice (none) 0 0, .slice (none) 0 0, .int .i64 (z)] 29))) L B A n D) := ((h.alloc hB _).alloc (by first | omega | (simp; omega) | (simp; done)) _).alloc (by first | omega | (simp; omega) | (simp; done)) _
  have H2 : Hid (Ints ((((w.alloc (.cells #[.slice (A) n c, .int .i64 (p), .slice (A') n' c', .int .i64 (q)] 25)).alloc (.cells #[.slice none 0 0, .int .i64 0, .slice none 0 0, .int .i64 0, .slice none 0 0, .slice none 0 0, .int .i64 0] 29)).alloc (.cells #[.slice (A) n c, .int .i64 (p), .slice (A') n' c', .int .i64 (q), .slice (none) 0 0, .slice (none) 0 0, .int .i64 (z)] 29))) L' B' A' n' S) := ((h'.alloc hB' _).alloc (by first | omega | (simp; omega) | (simp; done)) _).alloc (by first | omega | (simp; omega) | (simp; done)) _
  have R0 : Hid (Box ((((w.alloc (.cells #[.slice (A) n c, .int .i64 (p), .slice (A') n' c', .int .i64 (q)] 25)).alloc (.cells #[.slice none 0 0, .int .i64 0, .slice none 0 0, .int .i64 0, .slice none 0 0, .slice none 0 0, .int .i64 0] 29)).alloc (.cells #[.slice (A) n c, .int .i64 (p), .slice (A') n' c', .int .i64 (q), .slice (none) 0 0, .slice (none) 0 0, .int .i64 (z)] 29))) (w.heap.size + 1) [.slice none 0 0, .int .i64 0, .slice none 0 0, .int .i64 0, .slice none 0 0, .slice none 0 0, .int .i64 0]) := by
    have hx := (Box.new (w.alloc (.cells #[.slice (A) n c, .int .i64 (p), .slice (A') n' c', .int .i64 (q)] 25)) 29 [.slice none 0 0, .int .i64 0, .slice none 0 0, .int .i64 0, .slice none 0 0, .slice none 0 0, .int .i64 0]).alloc (.cells #[.slice (A) n c, .int .i64 (p), .slice (A') n' c', .int .i64 (q), .slice (none) 0 0, .slice (none) 0 0, .int .i64 (z)] 29)
    rw [World.size_alloc] at hx
    exact hx
  have V0 : Hid (Box ((((w.alloc (.cells #[.slice (A) n c, .int .i64 (p), .slice (A') n' c', .int .i64 (q)] 25)).alloc (.cells #[.slice none 0 0, .int .i64 0, .slice none 0 0, .int .i64 0, .slice none 0 0, .slice none 0 0, .int .i64 0] 29)).alloc (.cells #[.slice (A) n c, .int .i64 (p), .slice (A') n' c', .int .i64 (q), .slice (none) 0 0, .slice (none) 0 0, .int .i64 (z)] 29))) (w.heap.size + 1 + 1) [.slice (A) n c, .int .i64 (p), .slice (A') n' c', .int .i64 (q), .slice (none) 0 0, .slice (none) 0 0, .int .i64 (z)]) := by
    have hx := Box.new ((w.alloc (.cells #[.slice (A) n c, .int .i64 (p), .slice (A') n' c', .int .i64 (q)] 25)).alloc (.cells #[.slice none 0 0, .int .i64 0, .slice none 0 0, .int .i64 0, .slice none 0 0, .slice none 0 0, .int .i64 0] 29)) 29 [.slice (A) n c, .int .i64 (p), .slice (A') n' c', .int .i64 (q), .slice (none) 0 0, .slice (none) 0 0, .int .i64 (z)]
    rw [World.size_alloc, World.size_alloc] at hx
    exact hx
  have E0 : Hid (Below w.heap.size w ((((w.alloc (.cells #[.slice (A) n c, .int .i64 (p), .slice (A') n' c', .int .i64 (q)] 25)).alloc (.cells #[.slice none 0 0, .int .i64 0, .slice none 0 0, .int .i64 0, .slice none 0 0, .slice none 0 0, .int .i64 0] 29)).alloc (.cells #[.slice (A) n c, .int .i64 (p), .slice (A') n' c', .int .i64 (q), .slice (none) 0 0, .slice (none) 0 0, .int .i64 (z)] 29)))) := (by go_grown : Below w.heap.size w _)
  have s0 : ((((w.alloc (.cells #[.slice (A) n c, .int .i64 (p), .slice (A') n' c', .int .i64 (q)] 25)).alloc (.cells #[.slice none 0 0, .int .i64 0, .slice none 0 0, .int .i64 0, .slice none 0 0, .slice none 0 0, .int .i64 0] 29)).alloc (.cells #[.slice (A) n c, .int .i64 (p), .slice (A') n' c', .int .i64 (q), .slice (none) 0 0, .slice (none) 0 0, .int .i64 (z)] 29))).heap.size = w.heap.size + 3 := by simp
  clear h h'
  go_enter Try.func9, Try.ntmps9
  go_wp2_with fail
  generalize (((w.alloc (.cells #[.slice (A) n c, .int .i64 (p), .slice (A') n' c', .int .i64 (q)] 25)).alloc (.cells #[.slice none 0 0, .int .i64 0, .slice none 0 0, .int .i64 0, .slice none 0 0, .slice none 0 0, .int .i64 0] 29)).alloc (.cells #[.slice (A) n c, .int .i64 (p), .slice (A') n' c', .int .i64 (q), .slice (none) 0 0, .slice (none) 0 0, .int .i64 (z)] 29)) = w0 at *
  refine (ValidBoth_any H1.out H2.out (Ints.nil w0 0 0 0 none).1 (Ints.nil w0 0 0 0 none).1 (by omega) (by omega) (by omega) (by omega) hnc).mono ?_
  rintro e w1 ⟨rfl, hb1⟩
  have s1 := hb1.size
  have I1 := Lib.hid (H1.out.below hb1 (by omega))
  have I2 := Lib.hid (H2.out.below hb1 (by omega))
  have R1 := Lib.hid (R0.out.below hb1 (by omega))
  have V1 := Lib.hid (V0.out.below hb1 (by omega))
  have E1 := Lib.hid (below_step hb1 E0.out (by omega))
  clear hb1 H1 H2 R0 V0 E0
  cases hv : validB D p S q [] [] z
  · have HO : Hid (newBOut D p S q z = (.zero, false)) := by show _ = _; simp [newBOut, hv]
    have HV := Lib.hid hv
    clear hv
    have r0 := (R1.out.2 0 _ rfl).1; have r1 := (R1.out.2 1 _ rfl).1; have r2 := (R1.out.2 2 _ rfl).1; have r3 := (R1.out.2 3 _ rfl).1; have r4 := (R1.out.2 4 _ rfl).1; have r5 := (R1.out.2 5 _ rfl).1; have r6 := (R1.out.2 6 _ rfl).1
    have g0 := (R1.out.2 0 _ rfl).2; have g1 := (R1.out.2 1 _ rfl).2; have g2 := (R1.out.2 2 _ rfl).2; have g3 := (R1.out.2 3 _ rfl).2; have g4 := (R1.out.2 4 _ rfl).2; have g5 := (R1.out.2 5 _ rfl).2; have g6 := (R1.out.2 6 _ rfl).2
    go_wp2
    refine bodyPost_ret (v := .tuple #[.agg #[.slice none 0 0, .int .i64 0, .slice none 0 0, .int .i64 0, .slice none 0 0, .slice none 0 0, .int .i64 0], .bool false]) (by simp [results, Try.results9, go_sem, r0, g0, r1, g1, r2, g2, r3, g3, r4, g4, r5, g5, r6, g6]) rfl ?_
    rw [HO.out]
    refine Post2B.zero ?_
    (repeat (with_reducible refine below_set ?_ (by omega) _))
    exact E1.out
  · have HO : Hid (newBOut D p S q z = (⟨D, p, S, q, [], [], z⟩, true)) := by show _ = _; simp [newBOut, hv]
    have hl := validB_len hv
    rw [← HL.out, ← HL'.out] at hl
    obtain ⟨hn60, hn12, _, _, hp, hq, hz⟩ := hl
    clear hv
    have x0 := (V1.out.2 0 _ rfl).1; have x1 := (V1.out.2 1 _ rfl).1; have x2 := (V1.out.2 2 _ rfl).1; have x3 := (V1.out.2 3 _ rfl).1; have x4 := (V1.out.2 4 _ rfl).1; have x5 := (V1.out.2 5 _ rfl).1; have x6 := (V1.out.2 6 _ rfl).1
    go_wp2_with fail
    refine (fileOf_any I1.out I2.out (Ints.nil w1 0 0 0 none).1 (Ints.nil w1 0 0 0 none).1 (by omega) (by omega) (by omega) (by omega) (by omega) (by omega) (by omega) (by omega) (by unfold okInt; omega) (by unfold okInt; omega)).mono ?_
    rintro e w2 ⟨b, A4, n4, c4, A4', n4', c4', A5, n5, c5, A6, n6, c6, rfl, ⟨hc4, hc4', hc5, hc6⟩, hb2, hbl, hx, h1, h2, h3, h4, ha, ha1, ha2, ha3, ha4, ha5⟩
    have HX := Lib.hid hx
    have hbw := hx.lt
    have s2 := hb2.size
    have D1 := Lib.hid h1
    have D2 := Lib.hid h2
    have D3 := Lib.hid h3
    have D4 := Lib.hid h4
    have HA := Lib.hid (And.intro ha (And.intro (And.intro ha1 ha2) (And.intro ha3 (And.intro ha4 ha5))))
    have R2 := Lib.hid (R1.out.below hb2 (by omega))
    have E2 := Lib.hid (below_step hb2 E1.out (by omega))
    clear hb2 hx h1 h2 h3 h4 ha ha1 ha2 ha3 ha4 ha5 R1 V1 E1
    clear x0 x1 x2 x3 x4 x5 x6
    go_wp2_with fail
    refine (both_any HX.out).mono ?_
    rintro e w3 ⟨rfl, hb3⟩
    have s3 := hb3.size
    have K1 := Lib.hid (D1.out.below hb3 (by omega))
    have K2 := Lib.hid (D2.out.below hb3 (by omega))
    have K3 := Lib.hid (D3.out.below hb3 (by omega))
    have K4 := Lib.hid (D4.out.below hb3 (by omega))
    have R3 := Lib.hid (R2.out.below hb3 (by omega))
    have E3 := Lib.hid (below_step hb3 E2.out (by omega))
    clear hb3 D1 D2 D3 D4 R2 E2
    have r0 := (R3.out.2 0 _ rfl).1; have r1 := (R3.out.2 1 _ rfl).1; have r2 := (R3.out.2 2 _ rfl).1; have r3 := (R3.out.2 3 _ rfl).1; have r4 := (R3.out.2 4 _ rfl).1; have r5 := (R3.out.2 5 _ rfl).1; have r6 := (R3.out.2 6 _ rfl).1
    have g0 := (R3.out.2 0 _ rfl).2; have g1 := (R3.out.2 1 _ rfl).2; have g2 := (R3.out.2 2 _ rfl).2; have g3 := (R3.out.2 3 _ rfl).2; have g4 := (R3.out.2 4 _ rfl).2; have g5 := (R3.out.2 5 _ rfl).2; have g6 := (R3.out.2 6 _ rfl).2
    go_wp2
    refine bodyPost_ret (v := .tuple #[.agg #[.slice (A4) n4 c4, .int .i64 (p), .slice (A4') n4' c4', .int .i64 (q), .slice (A5) n5 c5, .slice (A6) n6 c6, .int .i64 (z)], .bool true]) (by simp [results, Try.results9, go_sem, r0, g0, r1, g1, r2, g2, r3, g3, r4, g4, r5, g5, r6, g6]) rfl ?_
    rw [HO.out]
    refine ⟨_, _, _, _, _, _, _, _, _, _, _, _, rfl, ⟨hc4, hc4', hc5, hc6⟩, ?_, ⟨⟨⟨?_, ?_, HA.out.1, ?_, ?_⟩, ?_, HA.out.2.1.1, HA.out.2.1.2, ?_⟩, ?_, HA.out.2.2.1, HA.out.2.2.2.1, HA.out.2.2.2.2⟩⟩
    · (repeat (with_reducible refine below_set ?_ (by omega) _))
      exact E3.out
    · simp only [World.size_setCell]
      refine Ints.more (lo := w1.heap.size) (hi := b) ?_ (by omega) (by omega)
      (repeat (with_reducible refine Ints.set_ ?_ (by omega) _))
      exact K1.out
    · simp only [World.size_setCell]
      refine Ints.more (lo := w1.heap.size) (hi := b) ?_ (by omega) (by omega)
      (repeat (with_reducible refine Ints.set_ ?_ (by omega) _))
      exact K2.out
    · unfold okInt; show _ ≤ p ∧ p ≤ _; omega
    · unfold okInt; show _ ≤ q ∧ q ≤ _; omega
    · simp only [World.size_setCell]
      refine Ints.more (lo := w1.heap.size) (hi := b) ?_ (by omega) (by omega)
      (repeat (with_reducible refine Ints.set_ ?_ (by omega) _))
      exact K3.out
    · unfold okInt; show _ ≤ z ∧ z ≤ _; omega
    · simp only [World.size_setCell]
      refine Ints.more (lo := w1.heap.size) (hi := b) ?_ (by omega) (by omega)
      (repeat (with_reducible refine Ints.set_ ?_ (by omega) _))
      exact K4.out
theorem NewBoth_x {A A' : Option Addr} {n c n' c' : Nat} {D S : List Int} {p q z : Int} {w : World} {L L' B B' : Nat} (h : Ints w L B A n D) (h' : Ints w L' B' A' n' S) (hB : B ≤ w.heap.size) (hB' : B' ≤ w.heap.size) (hc : n ≤ c) (_hc' : n' ≤ c') (_hn : n ≤ 1048576) (_hn' : n' ≤ 1048576) (_hp : okInt p) (_hq : okInt q) (_hz : okInt z) :
    Calls Try.prog 9 #[.agg #[.slice (A) n c, .int .i64 (p), .slice (A') n' c', .int .i64 (q)], .int .i64 z] w (Post2B (newBOut D p S q z) w) := NewBoth_any h h' hB hB' hc
set_option maxHeartbeats 4000000 in
theorem PlainOf_x {A A' A2 A3 : Option Addr} {n c n' c' n2 c2 n3 c3 : Nat} {D S R Q : List Int} {p q z : Int} {w : World} {L L' B B' M C U V : Nat} (h : Ints w L B A n D) (h' : Ints w L' B' A' n' S) (g : Ints w M C A2 n2 R) (j : Ints w U V A3 n3 Q) (hB : B ≤ w.heap.size) (hB' : B' ≤ w.heap.size) (hC : C ≤ w.heap.size) (hV : V ≤ w.heap.size) (hc : n ≤ c) (_hc1 : n' ≤ c') (_hc2 : n2 ≤ c2) (hc3 : n3 ≤ c3) (_hn : n ≤ 1048576) (_hn1 : n' ≤ 1048576) (_hn2 : n2 ≤ 1048576) (_hn3 : n3 ≤ 1048576) :
    Calls Try.prog 13 #[.agg #[.slice (A) n c, .int .i64 (p), .slice (A') n' c', .int .i64 (q), .slice (A2) n2 c2, .slice (A3) n3 c3, .int .i64 (z)]] w (PostP (poOut D p S q R Q z) w) := by
  have HQ := Lib.hid j.len
  have HG := Lib.hid g.len
  have HL := Lib.hid h.len
  have HL' := Lib.hid h'.len
  have H10 : Hid (Ints ((w.alloc (.cells #[.slice (A) n c, .int .i64 (p), .slice (A') n' c', .int .i64 (q), .slice (A2) n2 c2, .slice (A3) n3 c3, .int .i64 (z)] 29)).alloc (.cells #[.slice none 0 0, .int .i64 0] 35)) L B A n D) := (h.alloc hB _).alloc (by first | omega | (simp; omega) | (simp; done)) _
  have H20 : Hid (Ints ((w.alloc (.cells #[.slice (A) n c, .int .i64 (p), .slice (A') n' c', .int .i64 (q), .slice (A2) n2 c2, .slice (A3) n3 c3, .int .i64 (z)] 29)).alloc (.cells #[.slice none 0 0, .int .i64 0] 35)) L' B' A' n' S) := (h'.alloc hB' _).alloc (by first | omega | (simp; omega) | (simp; done)) _
  have G0 : Hid (Ints ((w.alloc (.cells #[.slice (A) n c, .int .i64 (p), .slice (A') n' c', .int .i64 (q), .slice (A2) n2 c2, .slice (A3) n3 c3, .int .i64 (z)] 29)).alloc (.cells #[.slice none 0 0, .int .i64 0] 35)) M C A2 n2 R) := (g.alloc hC _).alloc (by first | omega | (simp; omega) | (simp; done)) _
  have J0 : Hid (Ints ((w.alloc (.cells #[.slice (A) n c, .int .i64 (p), .slice (A') n' c', .int .i64 (q), .slice (A2) n2 c2, .slice (A3) n3 c3, .int .i64 (z)] 29)).alloc (.cells #[.slice none 0 0, .int .i64 0] 35)) U V A3 n3 Q) := (j.alloc hV _).alloc (by first | omega | (simp; omega) | (simp; done)) _
  have X0 : Hid (Box ((w.alloc (.cells #[.slice (A) n c, .int .i64 (p), .slice (A') n' c', .int .i64 (q), .slice (A2) n2 c2, .slice (A3) n3 c3, .int .i64 (z)] 29)).alloc (.cells #[.slice none 0 0, .int .i64 0] 35)) w.heap.size [.slice (A) n c, .int .i64 (p), .slice (A') n' c', .int .i64 (q), .slice (A2) n2 c2, .slice (A3) n3 c3, .int .i64 (z)]) := (Box.new w 29 [.slice (A) n c, .int .i64 (p), .slice (A') n' c', .int .i64 (q), .slice (A2) n2 c2, .slice (A3) n3 c3, .int .i64 (z)]).alloc _
  have R0 : Hid (Box ((w.alloc (.cells #[.slice (A) n c, .int .i64 (p), .slice (A') n' c', .int .i64 (q), .slice (A2) n2 c2, .slice (A3) n3 c3, .int .i64 (z)] 29)).alloc (.cells #[.slice none 0 0, .int .i64 0] 35)) (w.heap.size + 1) [.slice none 0 0, .int .i64 0]) := by
    have hx := Box.new (w.alloc (.cells #[.slice (A) n c, .int .i64 (p), .slice (A') n' c', .int .i64 (q), .slice (A2) n2 c2, .slice (A3) n3 c3, .int .i64 (z)] 29)) 35 [.slice none 0 0, .int .i64 0]
    rw [World.size_alloc] at hx
    exact hx
  have E0 : Hid (Below w.heap.size w ((w.alloc (.cells #[.slice (A) n c, .int .i64 (p), .slice (A') n' c', .int .i64 (q), .slice (A2) n2 c2, .slice (A3) n3 c3, .int .i64 (z)] 29)).alloc (.cells #[.slice none 0 0, .int .i64 0] 35))) := (by go_grown : Below w.heap.size w _)
  have s0 : (((w.alloc (.cells #[.slice (A) n c, .int .i64 (p), .slice (A') n' c', .int .i64 (q), .slice (A2) n2 c2, .slice (A3) n3 c3, .int .i64 (z)] 29)).alloc (.cells #[.slice none 0 0, .int .i64 0] 35))).heap.size = w.heap.size + 2 := by simp
  clear h h' g j
  have x0 := (X0.out.2 0 _ rfl).1; have x1 := (X0.out.2 1 _ rfl).1; have x2 := (X0.out.2 2 _ rfl).1; have x3 := (X0.out.2 3 _ rfl).1; have x4 := (X0.out.2 4 _ rfl).1; have x5 := (X0.out.2 5 _ rfl).1; have x6 := (X0.out.2 6 _ rfl).1
  go_enter Try.func13, Try.ntmps13
  go_wp2_with fail
  generalize ((w.alloc (.cells #[.slice (A) n c, .int .i64 (p), .slice (A') n' c', .int .i64 (q), .slice (A2) n2 c2, .slice (A3) n3 c3, .int .i64 (z)] 29)).alloc (.cells #[.slice none 0 0, .int .i64 0] 35)) = w0 at *
  clear x0 x1 x2 x3 x4 x5 x6
  refine (ValidBoth_any H10.out H20.out G0.out J0.out (by omega) (by omega) (by omega) (by omega) hc).mono ?_
  rintro e w1 ⟨rfl, hb1⟩
  have R1 := Lib.hid (R0.out.below hb1 (by omega))
  have s1 := hb1.size
  have E1 := Lib.hid (below_step hb1 E0.out (by omega))
  have X1 := Lib.hid (X0.out.below hb1 (by omega))
  have H11 := Lib.hid (H10.out.below hb1 (by omega))
  have H21 := Lib.hid (H20.out.below hb1 (by omega))
  have G1 := Lib.hid (G0.out.below hb1 (by omega))
  have J1 := Lib.hid (J0.out.below hb1 (by omega))
  clear hb1 H10 H20 G0 J0 X0 E0
  cases hv : validB D p S q R Q z
  · have HO : Hid (poOut D p S q R Q z = Pv.zero) := by show _ = _; simp [poOut, hv]
    clear hv
    have r0 := (R1.out.2 0 _ rfl).1; have r1 := (R1.out.2 1 _ rfl).1
    have g0 := (R1.out.2 0 _ rfl).2; have g1 := (R1.out.2 1 _ rfl).2
    go_wp2
    refine bodyPost_ret (v := .agg #[.slice none 0 0, .int .i64 0]) (by simp [results, Try.results13, go_sem, r0, r1, g0, g1]) rfl ?_
    rw [HO.out]
    refine ⟨none, 0, 0, rfl, Nat.le_refl _, ?_, (Ints.nil _ _ _ 0 _).1, ok0⟩
    (repeat (with_reducible refine below_set ?_ (by omega) _))
    exact E1.out
  · have HT : Hid (tellBOut D p S q R Q z = p - (R.length : Int) + (Q.length : Int)) := by show _ = _; simp [tellBOut, hv]
    have HO : Hid (poOut D p S q R Q z = Pv.mk (seenOut D p S q Q z) (p - (R.length : Int) + (Q.length : Int))) := by show _ = _; simp [poOut, hv]
    rw [← HT.out] at HO
    have hl := validB_len hv
    have hto : okInt (tellBOut D p S q R Q z) := by rw [HT.out]; unfold okInt; omega
    have HTO := Lib.hid hto
    have HTELL : Hid (∀ {L L' B B' M C U V : Nat} (w : World), Ints w L B A n D → Ints w L' B' A' n' S → Ints w M C A2 n2 R → Ints w U V A3 n3 Q → B ≤ w.heap.size → B' ≤ w.heap.size → C ≤ w.heap.size → V ≤ w.heap.size → Calls Try.prog 39 #[.agg #[.slice (A) n c, .int .i64 (p), .slice (A') n' c', .int .i64 (q), .slice (A2) n2 c2, .slice (A3) n3 c3, .int .i64 (z)]] w (IntB (tellBOut D p S q R Q z) w)) := fun _ a1 a2 a3 a4 b1 b2 b3 b4 => TellBoth_any a1 a2 a3 a4 b1 b2 b3 b4 hc
    generalize tellBOut D p S q R Q z = T at *
    clear hv hto hl HT
    have x0 := (X1.out.2 0 _ rfl).1; have x1 := (X1.out.2 1 _ rfl).1; have x2 := (X1.out.2 2 _ rfl).1; have x3 := (X1.out.2 3 _ rfl).1; have x4 := (X1.out.2 4 _ rfl).1; have x5 := (X1.out.2 5 _ rfl).1; have x6 := (X1.out.2 6 _ rfl).1
    go_wp2_with fail
    go_region_held3 (fun w' => w'.cell? ⟨w.heap.size, 0, none⟩ = some (.slice A n c) ∧ w'.cell? ⟨w.heap.size, 1, none⟩ = some (.int .i64 p) ∧ w'.cell? ⟨w.heap.size, 2, none⟩ = some (.slice A' n' c') ∧ w'.cell? ⟨w.heap.size, 3, none⟩ = some (.int .i64 q) ∧ w'.cell? ⟨w.heap.size, 4, none⟩ = some (.slice A2 n2 c2) ∧ w'.cell? ⟨w.heap.size, 5, none⟩ = some (.slice A3 n3 c3) ∧ w'.cell? ⟨w.heap.size, 6, none⟩ = some (.int .i64 z)) (go_keep)
      (first | (go_at_call 38; refine writerOf_any.mono ?_; rintro e w2 ⟨rfl, hb2⟩; (try simp only [World.size_alloc, World.size_setCell, World.size_drew] at hb2); have HB2 := Lib.hid hb2; have s2 := hb2.size; (try simp only [World.size_alloc, World.size_setCell, World.size_drew] at s2); have X2 := Lib.hid (X1.out.drew.below hb2 (by omega)); have R2 := Lib.hid (R1.out.drew.below hb2 (by omega)); have I21 := Lib.hid (H11.out.drew.below hb2 (by first | omega | (simp; omega) | (simp; done))); have I22 := Lib.hid (H21.out.drew.below hb2 (by first | omega | (simp; omega) | (simp; done))); have G2 := Lib.hid (G1.out.drew.below hb2 (by first | omega | (simp; omega) | (simp; done))); have J2 := Lib.hid (J1.out.drew.below hb2 (by first | omega | (simp; omega) | (simp; done))); clear hb2; clear x0 x1 x2 x3 x4 x5 x6; have x0 := (X2.out.2 0 _ rfl).1; have x1 := (X2.out.2 1 _ rfl).1; have x2 := (X2.out.2 2 _ rfl).1; have x3 := (X2.out.2 3 _ rfl).1; have x4 := (X2.out.2 4 _ rfl).1; have x5 := (X2.out.2 5 _ rfl).1; have x6 := (X2.out.2 6 _ rfl).1) | (go_at_call 37; refine (SeenData_x I21.out I22.out J2.out (by omega) (by omega) (by omega) hc _hc1 hc3 _hn _hn1 _hn3).mono ?_; rintro e w3 ⟨A7, n7, c7, rfl, hc7, hb3, hi3⟩; have HB3 := Lib.hid hb3; have HI3 := Lib.hid hi3; have s3 := hb3.size; have X3 := Lib.hid (X2.out.below hb3 (by omega)); have R3 := Lib.hid (R2.out.below hb3 (by omega)); have I31 := Lib.hid (I21.out.below hb3 (by omega)); have I32 := Lib.hid (I22.out.below hb3 (by omega)); have G3 := Lib.hid (G2.out.below hb3 (by omega)); have J3 := Lib.hid (J2.out.below hb3 (by omega)); clear hb3 hi3; clear x0 x1 x2 x3 x4 x5 x6; have x0 := (X3.out.2 0 _ rfl).1; have x1 := (X3.out.2 1 _ rfl).1; have x2 := (X3.out.2 2 _ rfl).1; have x3 := (X3.out.2 3 _ rfl).1; have x4 := (X3.out.2 4 _ rfl).1; have x5 := (X3.out.2 5 _ rfl).1; have x6 := (X3.out.2 6 _ rfl).1) | (go_at_call 39; refine (HTELL.out _ I31.out I32.out G3.out J3.out (by omega) (by omega) (by omega) (by omega)).mono ?_; rintro e w4 ⟨rfl, hb4⟩; have HB4 := Lib.hid hb4; have s4 := hb4.size; have X4 := Lib.hid (X3.out.below hb4 (by omega)); have R4 := Lib.hid (R3.out.below hb4 (by omega)); clear hb4; clear x0 x1 x2 x3 x4 x5 x6; have x0 := (X4.out.2 0 _ rfl).1; have x1 := (X4.out.2 1 _ rfl).1; have x2 := (X4.out.2 2 _ rfl).1; have x3 := (X4.out.2 3 _ rfl).1; have x4 := (X4.out.2 4 _ rfl).1; have x5 := (X4.out.2 5 _ rfl).1; have x6 := (X4.out.2 6 _ rfl).1; have r0 := (R4.out.2 0 _ rfl).1; have r1 := (R4.out.2 1 _ rfl).1; have g0 := (R4.out.2 0 _ rfl).2; have g1 := (R4.out.2 1 _ rfl).2))
    all_goals
      go_wp2
      refine bodyPost_ret (v := .agg #[.slice (A7) n7 c7, .int .i64 (T)]) (by simp [results, Try.results13, go_sem, r0, r1, g0, g1]) rfl ?_
      rw [HO.out]
      refine ⟨A7, n7, c7, rfl, hc7, ?_, ?_, HTO.out⟩
      · (repeat (with_reducible refine below_set ?_ (by omega) _))
        exact below_step HB4.out (below_step HB3.out (below_step HB2.out E1.out.drew (by first | omega | (simp; omega) | (simp; done))) (by omega)) (by omega)
      · simp only [World.size_setCell]
        refine Ints.more (lo := w2.heap.size) (hi := w3.heap.size) ?_ (by omega) (by omega)
        (repeat (with_reducible refine Ints.set_ ?_ (by omega) _))
        exact HI3.out.below HB4.out (by omega)
end Go.Proofs.Ytdiebkaedjlckaa
