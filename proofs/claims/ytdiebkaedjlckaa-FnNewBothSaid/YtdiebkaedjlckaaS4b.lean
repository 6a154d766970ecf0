/- Contracts of files that are read and written, the model's: what is valid; NewBoth, TellBoth, PlainOf. -/
import Derived.Test.YtdiebkaedjlckaaC4b
import Derived.Test.YtdiebkaedjlckaaS4a
import Derived.Test.YtdiebkaedjlckaaS2a
namespace Go.Proofs.Ytdiebkaedjlckaa
open Go.ChangeShapes Go.WideShapes Go.ChangeAt Go.RowKit
set_option linter.unusedSimpArgs false
set_option linter.unusedVariables false
set_option maxRecDepth 10000

set_option maxHeartbeats 2000000 in
theorem validBoth_any {A A' A2 A3 : Option Addr} {n c n' c' n2 c2 n3 c3 : Nat} {D S R Q : List Int} {p q z : Int} {w : World} {L L' B B' M C U V : Nat} (h : Ints w L B A n D) (h' : Ints w L' B' A' n' S) (g : Ints w M C A2 n2 R) (j : Ints w U V A3 n3 Q) (hB : B ≤ w.heap.size) (hB' : B' ≤ w.heap.size) (hC : C ≤ w.heap.size) (hV : V ≤ w.heap.size) :
    Calls Try.prog 35 #[.agg #[.slice (A) n c, .int .i64 (p), .slice (A') n' c', .int .i64 (q), .slice (A2) n2 c2, .slice (A3) n3 c3, .int .i64 (z)]] w (BoolB (validB D p S q R Q z) w) := by
  have HQ := Lib.hid j.len
  have HG := Lib.hid g.len
  have HL := Lib.hid h.len
  have HL' := Lib.hid h'.len
  have H10 := Lib.hid (h.alloc hB (.cells #[.slice (A) n c, .int .i64 (p), .slice (A') n' c', .int .i64 (q), .slice (A2) n2 c2, .slice (A3) n3 c3, .int .i64 (z)] 29))
  have H20 := Lib.hid (h'.alloc hB' (.cells #[.slice (A) n c, .int .i64 (p), .slice (A') n' c', .int .i64 (q), .slice (A2) n2 c2, .slice (A3) n3 c3, .int .i64 (z)] 29))
  have G0 := Lib.hid (g.alloc hC (.cells #[.slice (A) n c, .int .i64 (p), .slice (A') n' c', .int .i64 (q), .slice (A2) n2 c2, .slice (A3) n3 c3, .int .i64 (z)] 29))
  have J0 := Lib.hid (j.alloc hV (.cells #[.slice (A) n c, .int .i64 (p), .slice (A') n' c', .int .i64 (q), .slice (A2) n2 c2, .slice (A3) n3 c3, .int .i64 (z)] 29))
  have X0 := Lib.hid (Box.new w 29 [.slice (A) n c, .int .i64 (p), .slice (A') n' c', .int .i64 (q), .slice (A2) n2 c2, .slice (A3) n3 c3, .int .i64 (z)])
  have E0 : Hid (Below w.heap.size w (w.alloc (.cells #[.slice (A) n c, .int .i64 (p), .slice (A') n' c', .int .i64 (q), .slice (A2) n2 c2, .slice (A3) n3 c3, .int .i64 (z)] 29))) := (by go_grown : Below w.heap.size w _)
  have s0 : (w.alloc (.cells #[.slice (A) n c, .int .i64 (p), .slice (A') n' c', .int .i64 (q), .slice (A2) n2 c2, .slice (A3) n3 c3, .int .i64 (z)] 29)).heap.size = w.heap.size + 1 := by simp
  clear h h' g j
  have x0 := (X0.out.2 0 _ rfl).1; have x1 := (X0.out.2 1 _ rfl).1; have x2 := (X0.out.2 2 _ rfl).1; have x3 := (X0.out.2 3 _ rfl).1; have x4 := (X0.out.2 4 _ rfl).1; have x5 := (X0.out.2 5 _ rfl).1; have x6 := (X0.out.2 6 _ rfl).1
  go_enter Try.func35, Try.ntmps35
  go_wp2_with fail
  generalize w.alloc (.cells #[.slice (A) n c, .int .i64 (p), .slice (A') n' c', .int .i64 (q), .slice (A2) n2 c2, .slice (A3) n3 c3, .int .i64 (z)] 29) = w0 at *
  clear x0 x1 x2 x3 x4 x5 x6
  refine (sValidReader0_any H10.out H20.out G0.out (by omega) (by omega) (by omega)).mono ?_
  rintro e w1 ⟨rfl, hb1⟩
  have s1 := hb1.size
  have E1 := Lib.hid (below_step hb1 E0.out (by omega))
  have X1 := Lib.hid (X0.out.below hb1 (by omega))
  have H11 := Lib.hid (H10.out.below hb1 (by omega))
  have H21 := Lib.hid (H20.out.below hb1 (by omega))
  have G1 := Lib.hid (G0.out.below hb1 (by omega))
  have J1 := Lib.hid (J0.out.below hb1 (by omega))
  clear hb1 H10 H20 G0 J0 X0 E0
  have x0 := (X1.out.2 0 _ rfl).1; have x1 := (X1.out.2 1 _ rfl).1; have x2 := (X1.out.2 2 _ rfl).1; have x3 := (X1.out.2 3 _ rfl).1; have x4 := (X1.out.2 4 _ rfl).1; have x5 := (X1.out.2 5 _ rfl).1; have x6 := (X1.out.2 6 _ rfl).1
  cases hv : validR D p S q R z
  · go_wp2
    go_ret
    exact ⟨ret_bool (by simp [validB, hv]), E1.out⟩
  · have HV := Lib.hid hv
    clear hv
    go_wp2_with fail
    clear x0 x1 x2 x3 x4 x5 x6
    refine (sValidWriter0_any H11.out H21.out J1.out (by omega) (by omega) (by omega)).mono ?_
    rintro e w3 ⟨rfl, hb3⟩
    have s3 := hb3.size
    have E3 := Lib.hid (below_step hb3 E1.out (by omega))
    have X3 := Lib.hid (X1.out.below hb3 (by omega))
    have H13 := Lib.hid (H11.out.below hb3 (by omega))
    have H23 := Lib.hid (H21.out.below hb3 (by omega))
    have G3 := Lib.hid (G1.out.below hb3 (by omega))
    have J3 := Lib.hid (J1.out.below hb3 (by omega))
    clear hb3 H11 H21 G1 J1 X1 E1
    have x0 := (X3.out.2 0 _ rfl).1; have x1 := (X3.out.2 1 _ rfl).1; have x2 := (X3.out.2 2 _ rfl).1; have x3 := (X3.out.2 3 _ rfl).1; have x4 := (X3.out.2 4 _ rfl).1; have x5 := (X3.out.2 5 _ rfl).1; have x6 := (X3.out.2 6 _ rfl).1
    cases hw : validW D p S q Q z
    · go_wp2
      go_ret
      exact ⟨ret_bool (by simp [validB, hw]), E3.out⟩
    · have HW := Lib.hid hw
      clear hw
      by_cases h2 : n2 = 0
      · have HF : Hid (validB D p S q R Q z = true) := by
          show _ = _
          have := HG.out
          simp [validB, HV.out, HW.out, ← this, h2]
        subst h2
        go_wp2
        go_ret
        exact ⟨ret_bool HF.out.symm, E3.out⟩
      · have h2z : ((n2 : Int) == 0) = false := by simp; omega
        by_cases h3 : n3 = 0
        · have HF : Hid (validB D p S q R Q z = true) := by
            show _ = _
            have := HQ.out
            simp [validB, HV.out, HW.out, ← this, h3]
          subst h3
          go_wp2
          go_ret
          exact ⟨ret_bool HF.out.symm, E3.out⟩
        · have h3z : ((n3 : Int) == 0) = false := by simp; omega
          have HF : Hid (validB D p S q R Q z = false) := by
            show _ = _
            have hq := HQ.out
            have hg := HG.out
            have a1 : ¬ R.length = 0 := by omega
            have a2 : ¬ Q.length = 0 := by omega
            unfold validB
            rw [decide_eq_false a1, decide_eq_false a2]
            simp
          go_wp2
          go_ret
          exact ⟨ret_bool HF.out.symm, E3.out⟩
set_option maxHeartbeats 4000000 in
theorem SNewBoth_any {A A' : Option Addr} {n c n' c' : Nat} {D S : List Int} {p q z : Int} {w : World} {L L' B B' : Nat} (h : Ints w L B A n D) (h' : Ints w L' B' A' n' S) (hB : B ≤ w.heap.size) (hB' : B' ≤ w.heap.size) (hn : n ≤ 1048576) (hn' : n' ≤ 1048576) (hp : okInt p) (hq : okInt q) :
    Calls Try.prog 10 #[.agg #[.slice (A) n c, .int .i64 (p), .slice (A') n' c', .int .i64 (q)], .int .i64 z] w (Post2B (newBOut D p S q z) w) := by
  have HL := Lib.hid h.len
  have H1 : Hid (Ints ((w.alloc (.cells #[.slice (A) n c, .int .i64 (p), .slice (A') n' c', .int .i64 (q)] 25)).alloc (.cells #[.slice none 0 0, .int .i64 0, .slice none 0 0, .int .i64 0, .slice none 0 0, .slice none 0 0, .int .i64 0] 29)) L B A n D) := (h.alloc hB _).alloc (by first | omega | (simp; omega) | (simp; done)) _
  have H2 : Hid (Ints ((w.alloc (.cells #[.slice (A) n c, .int .i64 (p), .slice (A') n' c', .int .i64 (q)] 25)).alloc (.cells #[.slice none 0 0, .int .i64 0, .slice none 0 0, .int .i64 0, .slice none 0 0, .slice none 0 0, .int .i64 0] 29)) L' B' A' n' S) := (h'.alloc hB' _).alloc (by first | omega | (simp; omega) | (simp; done)) _
  have X0 : Hid (Box ((w.alloc (.cells #[.slice (A) n c, .int .i64 (p), .slice (A') n' c', .int .i64 (q)] 25)).alloc (.cells #[.slice none 0 0, .int .i64 0, .slice none 0 0, .int .i64 0, .slice none 0 0, .slice none 0 0, .int .i64 0] 29)) w.heap.size [.slice (A) n c, .int .i64 (p), .slice (A') n' c', .int .i64 (q)]) := (Box.new w 25 [.slice (A) n c, .int .i64 (p), .slice (A') n' c', .int .i64 (q)]).alloc _
  have R0 : Hid (Box ((w.alloc (.cells #[.slice (A) n c, .int .i64 (p), .slice (A') n' c', .int .i64 (q)] 25)).alloc (.cells #[.slice none 0 0, .int .i64 0, .slice none 0 0, .int .i64 0, .slice none 0 0, .slice none 0 0, .int .i64 0] 29)) (w.heap.size + 1) [.slice none 0 0, .int .i64 0, .slice none 0 0, .int .i64 0, .slice none 0 0, .slice none 0 0, .int .i64 0]) := by
    have hx := Box.new (w.alloc (.cells #[.slice (A) n c, .int .i64 (p), .slice (A') n' c', .int .i64 (q)] 25)) 29 [.slice none 0 0, .int .i64 0, .slice none 0 0, .int .i64 0, .slice none 0 0, .slice none 0 0, .int .i64 0]
    rw [World.size_alloc] at hx
    exact hx
  have E0 : Hid (Below w.heap.size w ((w.alloc (.cells #[.slice (A) n c, .int .i64 (p), .slice (A') n' c', .int .i64 (q)] 25)).alloc (.cells #[.slice none 0 0, .int .i64 0, .slice none 0 0, .int .i64 0, .slice none 0 0, .slice none 0 0, .int .i64 0] 29))) := (by go_grown : Below w.heap.size w _)
  have s0 : ((w.alloc (.cells #[.slice (A) n c, .int .i64 (p), .slice (A') n' c', .int .i64 (q)] 25)).alloc (.cells #[.slice none 0 0, .int .i64 0, .slice none 0 0, .int .i64 0, .slice none 0 0, .slice none 0 0, .int .i64 0] 29)).heap.size = w.heap.size + 2 := by simp
  clear h h'
  go_enter Try.func10, Try.ntmps10
  go_wp2_with fail
  generalize (w.alloc (.cells #[.slice (A) n c, .int .i64 (p), .slice (A') n' c', .int .i64 (q)] 25)).alloc (.cells #[.slice none 0 0, .int .i64 0, .slice none 0 0, .int .i64 0, .slice none 0 0, .slice none 0 0, .int .i64 0] 29) = w0 at *
  refine (sCopyDevice_any H1.out H2.out (by omega) (by omega) hn hn' hp hq).mono ?_
  rintro e w1 ⟨A3, n3, c3, A3', n3', c3', rfl, ⟨hc3, hc3'⟩, hb1, hd, hd', ha, _, _⟩
  have s1 := hb1.size
  have D1 := Lib.hid (hd.alloc (Nat.le_refl _) (.cells #[.slice (A3) n3 c3, .int .i64 (p), .slice (A3') n3' c3', .int .i64 (q), .slice (none) 0 0, .slice (none) 0 0, .int .i64 (z)] 29))
  have D1' := Lib.hid (hd'.alloc (Nat.le_refl _) (.cells #[.slice (A3) n3 c3, .int .i64 (p), .slice (A3') n3' c3', .int .i64 (q), .slice (none) 0 0, .slice (none) 0 0, .int .i64 (z)] 29))
  have HA := Lib.hid ha
  have R1 := Lib.hid ((R0.out.below hb1 (by omega)).alloc (.cells #[.slice (A3) n3 c3, .int .i64 (p), .slice (A3') n3' c3', .int .i64 (q), .slice (none) 0 0, .slice (none) 0 0, .int .i64 (z)] 29))
  have V1 := Lib.hid (Box.new w1 29 [.slice (A3) n3 c3, .int .i64 (p), .slice (A3') n3' c3', .int .i64 (q), .slice (none) 0 0, .slice (none) 0 0, .int .i64 (z)])
  have E1 := Lib.hid ((below_step hb1 E0.out (by omega)).alloc (by omega) (.cells #[.slice (A3) n3 c3, .int .i64 (p), .slice (A3') n3' c3', .int .i64 (q), .slice (none) 0 0, .slice (none) 0 0, .int .i64 (z)] 29))
  have s2 : (w1.alloc (.cells #[.slice (A3) n3 c3, .int .i64 (p), .slice (A3') n3' c3', .int .i64 (q), .slice (none) 0 0, .slice (none) 0 0, .int .i64 (z)] 29)).heap.size = w1.heap.size + 1 := by simp
  have X1 := Lib.hid (X0.out.below hb1 (by omega))
  clear hb1 hd hd' ha H1 H2 R0 E0 X0
  have x0 := (X1.out.2 0 _ rfl).1; have x1 := (X1.out.2 1 _ rfl).1; have x2 := (X1.out.2 2 _ rfl).1; have x3 := (X1.out.2 3 _ rfl).1
  go_wp2_with fail
  clear x0 x1 x2 x3
  generalize w1.alloc (.cells #[.slice (A3) n3 c3, .int .i64 (p), .slice (A3') n3' c3', .int .i64 (q), .slice (none) 0 0, .slice (none) 0 0, .int .i64 (z)] 29) = w2 at *
  refine (validBoth_any D1.out D1'.out (Ints.nil w2 0 0 0 none).1 (Ints.nil w2 0 0 0 none).1 (by omega) (by omega) (by omega) (by omega)).mono ?_
  rintro e w3 ⟨rfl, hb3⟩
  have s3 := hb3.size
  have D3 := Lib.hid (D1.out.below hb3 (by omega))
  have D3' := Lib.hid (D1'.out.below hb3 (by omega))
  have R3 := Lib.hid (R1.out.below hb3 (by omega))
  have V3 := Lib.hid (V1.out.below hb3 (by omega))
  have E3 := Lib.hid (below_step hb3 E1.out (by omega))
  clear hb3 D1 D1' R1 V1 E1
  have r0 := (R3.out.2 0 _ rfl).1; have r1 := (R3.out.2 1 _ rfl).1; have r2 := (R3.out.2 2 _ rfl).1; have r3 := (R3.out.2 3 _ rfl).1; have r4 := (R3.out.2 4 _ rfl).1; have r5 := (R3.out.2 5 _ rfl).1; have r6 := (R3.out.2 6 _ rfl).1
  have g0 := (R3.out.2 0 _ rfl).2; have g1 := (R3.out.2 1 _ rfl).2; have g2 := (R3.out.2 2 _ rfl).2; have g3 := (R3.out.2 3 _ rfl).2; have g4 := (R3.out.2 4 _ rfl).2; have g5 := (R3.out.2 5 _ rfl).2; have g6 := (R3.out.2 6 _ rfl).2
  have x0 := (V3.out.2 0 _ rfl).1; have x1 := (V3.out.2 1 _ rfl).1; have x2 := (V3.out.2 2 _ rfl).1; have x3 := (V3.out.2 3 _ rfl).1; have x4 := (V3.out.2 4 _ rfl).1; have x5 := (V3.out.2 5 _ rfl).1; have x6 := (V3.out.2 6 _ rfl).1
  cases hv : validB D p S q [] [] z
  · have HO : Hid (newBOut D p S q z = (.zero, false)) := by show _ = _; simp [newBOut, hv]
    have HV := Lib.hid hv
    clear hv
    go_wp2
    refine bodyPost_ret (v := .tuple #[.agg #[.slice none 0 0, .int .i64 0, .slice none 0 0, .int .i64 0, .slice none 0 0, .slice none 0 0, .int .i64 0], .bool false]) (by simp [results, Try.results10, go_sem, r0, r1, r2, r3, r4, r5, r6, g0, g1, g2, g3, g4, g5, g6]) rfl ?_
    rw [HO.out]
    refine Post2B.zero ?_
    (repeat (with_reducible refine below_set ?_ (by omega) _))
    exact E3.out
  · have HO : Hid (newBOut D p S q z = (⟨D, p, S, q, [], [], z⟩, true)) := by show _ = _; simp [newBOut, hv]
    have hz := (validB_len hv).2.2.2.2.2.2
    clear hv
    go_wp2
    refine bodyPost_ret (v := .tuple #[.agg #[.slice (A3) n3 c3, .int .i64 (p), .slice (A3') n3' c3', .int .i64 (q), .slice (none) 0 0, .slice (none) 0 0, .int .i64 (z)], .bool true]) (by simp [results, Try.results10, go_sem, r0, r1, r2, r3, r4, r5, r6, g0, g1, g2, g3, g4, g5, g6]) rfl ?_
    rw [HO.out]
    refine ⟨_, _, _, _, _, _, _, _, _, _, _, _, rfl, ⟨hc3, hc3', Nat.le_refl _, Nat.le_refl _⟩, ?_, ⟨⟨⟨?_, ?_, HA.out, hp, hq⟩, (Ints.nil _ _ _ 0 _).1, fun h => absurd h (by omega), fun h => absurd h (by omega), ?_⟩, (Ints.nil _ _ _ 0 _).1, fun h => absurd h (by omega), fun h => absurd h (by omega), fun h => absurd h (by omega)⟩⟩
    · (repeat (with_reducible refine below_set ?_ (by omega) _))
      exact E3.out
    · simp only [World.size_setCell]
      refine Ints.more (lo := w0.heap.size) (hi := w1.heap.size) ?_ (by omega) (by omega)
      (repeat (with_reducible refine Ints.set_ ?_ (by omega) _))
      exact D3.out
    · simp only [World.size_setCell]
      refine Ints.more (lo := w0.heap.size) (hi := w1.heap.size) ?_ (by omega) (by omega)
      (repeat (with_reducible refine Ints.set_ ?_ (by omega) _))
      exact D3'.out
    · unfold okInt; show _ ≤ z ∧ z ≤ _; omega
theorem SNewBoth_x {A A' : Option Addr} {n c n' c' : Nat} {D S : List Int} {p q z : Int} {w : World} {L L' B B' : Nat} (h : Ints w L B A n D) (h' : Ints w L' B' A' n' S) (hB : B ≤ w.heap.size) (hB' : B' ≤ w.heap.size) (_hc : n ≤ c) (_hc' : n' ≤ c') (hn : n ≤ 1048576) (hn' : n' ≤ 1048576) (hp : okInt p) (hq : okInt q) (_hz : okInt z) :
    Calls Try.prog 10 #[.agg #[.slice (A) n c, .int .i64 (p), .slice (A') n' c', .int .i64 (q)], .int .i64 z] w (Post2B (newBOut D p S q z) w) := SNewBoth_any h h' hB hB' hn hn' hp hq
end Go.Proofs.Ytdiebkaedjlckaa
