/- A writer's public functions, the model's: FlushWriter, CutWriter. -/
import Derived.Test.YtdgfcbnfhengiaaDoorS3c
import Derived.Test.YtdgfcbnfhengiaaDoorC3d
import Derived.Test.YtdgfcbnfhengiaaDoorS1i
namespace Go.Proofs.YtdgfcbnfhengiaaDoor
open Go.ChangeShapes Go.WideShapes Go.ChangeAt Go.RowKit
set_option linter.unusedSimpArgs false
set_option linter.unusedVariables false
set_option maxRecDepth 10000


set_option maxHeartbeats 1000000 in
theorem sGoodWriter_any {A A' A2 : Option Addr} {n c n' c' n2 c2 : Nat} {D S R : List Int} {p q z : Int} {w : World} {L L' B B' M C : Nat} (h : Ints w L B A n D) (h' : Ints w L' B' A' n' S) (g : Ints w M C A2 n2 R) (hB : B ≤ w.heap.size) (hB' : B' ≤ w.heap.size) (hC : C ≤ w.heap.size) :
    Calls Tryd.prog 59 #[.agg #[.slice (A) n c, .int .i64 (p), .slice (A') n' c', .int .i64 (q), .slice (A2) n2 c2, .int .i64 (z)]] w (BoolB (goodW D p S q R z) w) := by
  have H1 := Lib.hid (h.alloc hB (.cells #[.slice (A) n c, .int .i64 (p), .slice (A') n' c', .int .i64 (q), .slice (A2) n2 c2, .int .i64 (z)] 27))
  have H2 := Lib.hid (h'.alloc hB' (.cells #[.slice (A) n c, .int .i64 (p), .slice (A') n' c', .int .i64 (q), .slice (A2) n2 c2, .int .i64 (z)] 27))
  have G1 := Lib.hid (g.alloc hC (.cells #[.slice (A) n c, .int .i64 (p), .slice (A') n' c', .int .i64 (q), .slice (A2) n2 c2, .int .i64 (z)] 27))
  have X0 := Lib.hid (Box.new w 27 [.slice (A) n c, .int .i64 (p), .slice (A') n' c', .int .i64 (q), .slice (A2) n2 c2, .int .i64 (z)])
  clear h h' g
  go_enter Tryd.func59, Tryd.ntmps59
  go_wp2_with fail
  refine (sValidWriter0_any H1.out H2.out G1.out (by first | omega | (simp; omega) | (simp; done)) (by first | omega | (simp; omega) | (simp; done)) (by first | omega | (simp; omega) | (simp; done))).mono ?_
  rintro e w1 ⟨rfl, hb1⟩
  (try simp only [World.size_alloc, World.size_setCell, World.size_drew] at hb1)
  have E1 : Hid (Below w.heap.size w w1) := below_step hb1 (by go_grown) (by omega)
  have X1 := Lib.hid (X0.out.below hb1 (by omega))
  clear hb1 H1 H2 G1 X0
  have x0 := (X1.out.2 0 _ rfl).1; have x1 := (X1.out.2 1 _ rfl).1; have x2 := (X1.out.2 2 _ rfl).1; have x3 := (X1.out.2 3 _ rfl).1; have x4 := (X1.out.2 4 _ rfl).1; have x5 := (X1.out.2 5 _ rfl).1
  go_wp2
  all_goals
    go_ret
    refine ⟨ret_bool ?_, E1.out⟩
    first | (simp [goodW, *]; done) | (simp [goodW]; omega)
set_option maxHeartbeats 8000000 in
theorem SFlushWriter_x {A A' A2 : Option Addr} {n c n' c' n2 c2 : Nat} {D S R : List Int} {p q z : Int} {w : World} {L L' B B' M C : Nat} (h : Ints w L B A n D) (h' : Ints w L' B' A' n' S) (g : Ints w M C A2 n2 R) (hB : B ≤ w.heap.size) (hB' : B' ≤ w.heap.size) (hC : C ≤ w.heap.size) (hc : n ≤ c) (hc1 : n' ≤ c') (hc2 : n2 ≤ c2) (_hn : n ≤ 1048576) (_hn1 : n' ≤ 1048576) (_hn2 : n2 ≤ 1048576) :
    Calls Tryd.prog 18 #[.agg #[.slice (A) n c, .int .i64 (p), .slice (A') n' c', .int .i64 (q), .slice (A2) n2 c2, .int .i64 (z)]] w (Post2I (flOut D p S q R z) w) := by
  have HG := Lib.hid g.len
  have HL := Lib.hid h.len
  have HL' := Lib.hid h'.len
  have H1 : Hid (Ints ((w.alloc (.cells #[.slice (A) n c, .int .i64 (p), .slice (A') n' c', .int .i64 (q), .slice (A2) n2 c2, .int .i64 (z)] 27)).alloc (.cells #[.slice none 0 0, .int .i64 0, .slice none 0 0, .int .i64 0, .slice none 0 0, .int .i64 0] 27)) L B A n D) := (h.alloc hB _).alloc (by first | omega | (simp; omega) | (simp; done)) _
  have H2 : Hid (Ints ((w.alloc (.cells #[.slice (A) n c, .int .i64 (p), .slice (A') n' c', .int .i64 (q), .slice (A2) n2 c2, .int .i64 (z)] 27)).alloc (.cells #[.slice none 0 0, .int .i64 0, .slice none 0 0, .int .i64 0, .slice none 0 0, .int .i64 0] 27)) L' B' A' n' S) := (h'.alloc hB' _).alloc (by first | omega | (simp; omega) | (simp; done)) _
  have G1 : Hid (Ints ((w.alloc (.cells #[.slice (A) n c, .int .i64 (p), .slice (A') n' c', .int .i64 (q), .slice (A2) n2 c2, .int .i64 (z)] 27)).alloc (.cells #[.slice none 0 0, .int .i64 0, .slice none 0 0, .int .i64 0, .slice none 0 0, .int .i64 0] 27)) M C A2 n2 R) := (g.alloc hC _).alloc (by first | omega | (simp; omega) | (simp; done)) _
  have X0 : Hid (Box ((w.alloc (.cells #[.slice (A) n c, .int .i64 (p), .slice (A') n' c', .int .i64 (q), .slice (A2) n2 c2, .int .i64 (z)] 27)).alloc (.cells #[.slice none 0 0, .int .i64 0, .slice none 0 0, .int .i64 0, .slice none 0 0, .int .i64 0] 27)) w.heap.size [.slice (A) n c, .int .i64 (p), .slice (A') n' c', .int .i64 (q), .slice (A2) n2 c2, .int .i64 (z)]) := (Box.new w 27 [.slice (A) n c, .int .i64 (p), .slice (A') n' c', .int .i64 (q), .slice (A2) n2 c2, .int .i64 (z)]).alloc _
  have R0 : Hid (Box ((w.alloc (.cells #[.slice (A) n c, .int .i64 (p), .slice (A') n' c', .int .i64 (q), .slice (A2) n2 c2, .int .i64 (z)] 27)).alloc (.cells #[.slice none 0 0, .int .i64 0, .slice none 0 0, .int .i64 0, .slice none 0 0, .int .i64 0] 27)) (w.heap.size + 1) [.slice none 0 0, .int .i64 0, .slice none 0 0, .int .i64 0, .slice none 0 0, .int .i64 0]) := by
    have hx := Box.new (w.alloc (.cells #[.slice (A) n c, .int .i64 (p), .slice (A') n' c', .int .i64 (q), .slice (A2) n2 c2, .int .i64 (z)] 27)) 27 [.slice none 0 0, .int .i64 0, .slice none 0 0, .int .i64 0, .slice none 0 0, .int .i64 0]
    rw [World.size_alloc] at hx
    exact hx
  have E0 : Hid (Below w.heap.size w ((w.alloc (.cells #[.slice (A) n c, .int .i64 (p), .slice (A') n' c', .int .i64 (q), .slice (A2) n2 c2, .int .i64 (z)] 27)).alloc (.cells #[.slice none 0 0, .int .i64 0, .slice none 0 0, .int .i64 0, .slice none 0 0, .int .i64 0] 27))) := (by go_grown : Below w.heap.size w _)
  have s0 : (((w.alloc (.cells #[.slice (A) n c, .int .i64 (p), .slice (A') n' c', .int .i64 (q), .slice (A2) n2 c2, .int .i64 (z)] 27)).alloc (.cells #[.slice none 0 0, .int .i64 0, .slice none 0 0, .int .i64 0, .slice none 0 0, .int .i64 0] 27))).heap.size = w.heap.size + 2 := by simp
  clear h h' g
  have x0 := (X0.out.2 0 _ rfl).1; have x1 := (X0.out.2 1 _ rfl).1; have x2 := (X0.out.2 2 _ rfl).1; have x3 := (X0.out.2 3 _ rfl).1; have x4 := (X0.out.2 4 _ rfl).1; have x5 := (X0.out.2 5 _ rfl).1
  go_enter Tryd.func18, Tryd.ntmps18
  go_wp2_with fail
  generalize ((w.alloc (.cells #[.slice (A) n c, .int .i64 (p), .slice (A') n' c', .int .i64 (q), .slice (A2) n2 c2, .int .i64 (z)] 27)).alloc (.cells #[.slice none 0 0, .int .i64 0, .slice none 0 0, .int .i64 0, .slice none 0 0, .int .i64 0] 27)) = w0 at *
  clear x0 x1 x2 x3 x4 x5
  refine (sGoodWriter_any H1.out H2.out G1.out (by omega) (by omega) (by omega)).mono ?_
  rintro e w1 ⟨rfl, hb1⟩
  have s1 := hb1.size
  have E1 := Lib.hid (below_step hb1 E0.out (by omega))
  have X1 := Lib.hid (X0.out.below hb1 (by omega))
  have R1 := Lib.hid (R0.out.below hb1 (by omega))
  have I1 := Lib.hid (H1.out.below hb1 (by omega))
  have I2 := Lib.hid (H2.out.below hb1 (by omega))
  have G2 := Lib.hid (G1.out.below hb1 (by omega))
  clear hb1 H1 H2 G1 X0 R0 E0
  cases hg : goodW D p S q R z
  · have HO : Hid (flOut D p S q R z = (Rv.zero, 5)) := by show _ = _; simp [flOut, hg]
    clear hg
    have r0 := (R1.out.2 0 _ rfl).1; have r1 := (R1.out.2 1 _ rfl).1; have r2 := (R1.out.2 2 _ rfl).1; have r3 := (R1.out.2 3 _ rfl).1; have r4 := (R1.out.2 4 _ rfl).1; have r5 := (R1.out.2 5 _ rfl).1
    have g0 := (R1.out.2 0 _ rfl).2; have g1 := (R1.out.2 1 _ rfl).2; have g2 := (R1.out.2 2 _ rfl).2; have g3 := (R1.out.2 3 _ rfl).2; have g4 := (R1.out.2 4 _ rfl).2; have g5 := (R1.out.2 5 _ rfl).2
    go_wp2
    refine bodyPost_ret (v := .tuple #[.agg #[.slice none 0 0, .int .i64 0, .slice none 0 0, .int .i64 0, .slice none 0 0, .int .i64 0], .int .i64 5]) (by simp [results, Tryd.results18, go_sem, r0, r1, r2, r3, r4, r5, g0, g1, g2, g3, g4, g5]) rfl ?_
    rw [HO.out]
    refine Post2I.zero ?_
    (repeat (with_reducible refine below_set ?_ (by omega) _))
    exact E1.out
  · have HO : Hid (flOut D p S q R z = (wvOf S z (fuGo S R.length D p q.toNat R), (fuGo S R.length D p q.toNat R).st)) := by show _ = _; simp [flOut, hg]
    obtain ⟨k1, k2, k3, k4, k5, k6, k7, k8⟩ := goodW_start hg
    obtain ⟨q0, rfl⟩ := Int.eq_ofNat_of_zero_le k6
    rw [Int.toNat_natCast] at HO k1 k2
    obtain ⟨i1, i2, i3, i4, i5⟩ := fuGo_valid R.length D p q0 R k1 k4 (by omega)
    obtain ⟨T, hT⟩ : ∃ T, fuGo S R.length D p q0 R = T := ⟨_, rfl⟩
    rw [hT] at i1 i2 i3 i4 i5 HO
    have HT := Lib.hid hT
    have HV := Lib.hid k1
    have HA := Lib.hid k4
    have HI1 := Lib.hid i1
    have HI5 := Lib.hid i5
    have hn60 : n ≤ 60 := by rw [HL.out]; exact k7
    have hn12 : n' ≤ 12 := by rw [HL'.out]; exact k8
    have hn16 : n2 ≤ 16 := by rw [HG.out]; exact k3
    obtain ⟨_, _, _, hp, _⟩ := validD_iff.1 k1
    clear hT hg k1 k4 i1 i2 i5
    have x0 := (X1.out.2 0 _ rfl).1; have x1 := (X1.out.2 1 _ rfl).1; have x2 := (X1.out.2 2 _ rfl).1; have x3 := (X1.out.2 3 _ rfl).1; have x4 := (X1.out.2 4 _ rfl).1; have x5 := (X1.out.2 5 _ rfl).1
    go_wp2_with fail
    clear x0 x1 x2 x3 x4 x5
    refine (sCopyWriter_any I1.out I2.out G2.out (by omega) (by omega) (by omega) (by omega) (by omega) (by omega) (by unfold okInt; omega) (by unfold okInt; omega) (by unfold okInt; omega)).mono ?_
    rintro e w2 ⟨A3, n3, c3, A3', n3', c3', A4, n4, c4, rfl, ⟨hc3, hc3', hc4⟩, hb2, ⟨⟨hd, hd', ha, _, _⟩, hr, ha1, ha2, _⟩⟩
    have s2 := hb2.size
    have D2 := Lib.hid hd
    have D2' := Lib.hid hd'
    have D2r := Lib.hid hr
    have HAP := Lib.hid (And.intro ha (And.intro ha1 ha2))
    have R2 := Lib.hid (R1.out.below hb2 (by omega))
    have E2 := Lib.hid (below_step hb2 E1.out (by omega))
    clear hb2 hd hd' hr ha ha1 ha2 R1 E1 I1 I2 G2 X1
    have hflush := flushed_any (z := z) (c' := c3') D2.out D2'.out D2r.out (Nat.le_refl _) (Nat.le_refl _) (Nat.le_refl _) HAP.out.2.1 hc3 hc4 HV.out k2 k3 HA.out
    rw [HT.out] at hflush
    have HF := Lib.hid hflush
    clear hflush
    go_wp2_with fail
    refine HF.out.mono ?_
    rintro e w3 ⟨A5, n5, c5, A6, n6, c6, M5, C5, M6, C6, rfl, ⟨hc5, hc6⟩, hb3, ⟨hi5, hi6⟩, ⟨hC5, hC6⟩, hor5, hor6, hap⟩
    have s3 := hb3.size
    have D3 := Lib.hid hi5
    have D3r := Lib.hid hi6
    have D3' := Lib.hid (D2'.out.below hb3 (Nat.le_refl _))
    have R3 := Lib.hid (R2.out.below hb3 (by omega))
    have E3 := Lib.hid (below_step hb3 E2.out (by omega))
    have hM5 : w1.heap.size ≤ M5 := by rcases hor5 with ⟨_, _, rfl, _⟩ | h <;> omega
    have hM6 : w1.heap.size ≤ M6 := by rcases hor6 with ⟨_, _, rfl, _⟩ | h <;> omega
    have AP3 : Hid (Apart A5 n5 A3' n3' ∧ Apart A6 n6 A5 n5 ∧ Apart A6 n6 A3' n3') := by
      show _ ∧ _ ∧ _
      refine ⟨?_, hap, ?_⟩
      · rcases hor5 with ⟨rfl, rfl, _, _⟩ | h
        · exact HAP.out.1
        · exact (Apart.of_le D2'.out hi5 (by omega)).symm
      · rcases hor6 with ⟨rfl, rfl, _, _⟩ | h
        · exact HAP.out.2.2
        · exact (Apart.of_le D2'.out hi6 (by omega)).symm
    clear hb3 hi5 hi6 hap hor5 hor6 R2 E2 HF D2 D2' D2r HAP
    have r0 := (R3.out.2 0 _ rfl).1; have r1 := (R3.out.2 1 _ rfl).1; have r2 := (R3.out.2 2 _ rfl).1; have r3 := (R3.out.2 3 _ rfl).1; have r4 := (R3.out.2 4 _ rfl).1; have r5 := (R3.out.2 5 _ rfl).1
    have g0 := (R3.out.2 0 _ rfl).2; have g1 := (R3.out.2 1 _ rfl).2; have g2 := (R3.out.2 2 _ rfl).2; have g3 := (R3.out.2 3 _ rfl).2; have g4 := (R3.out.2 4 _ rfl).2; have g5 := (R3.out.2 5 _ rfl).2
    go_wp2
    refine bodyPost_ret (v := .tuple #[.agg #[.slice (A5) n5 c5, .int .i64 (T.p), .slice (A3') n3' c3', .int .i64 ((T.q : Int)), .slice (A6) n6 c6, .int .i64 (z)], .int .i64 T.st]) (by simp [results, Tryd.results18, go_sem, r0, r1, r2, r3, r4, r5, g0, g1, g2, g3, g4, g5]) rfl ?_
    rw [HO.out]
    obtain ⟨_, _, _, hp9, hq9⟩ := validD_iff.1 HI1.out
    refine ⟨A5, n5, c5, A3', n3', c3', A6, n6, c6, rfl, ⟨hc5, hc3', hc6⟩, ?_, ⟨⟨?_, ?_, AP3.out.1, by unfold okInt; show _ ≤ T.p ∧ T.p ≤ _; omega, by unfold okInt; show _ ≤ (T.q : Int) ∧ (T.q : Int) ≤ _; omega⟩, ?_, AP3.out.2.1, AP3.out.2.2, by unfold okInt; show _ ≤ z ∧ z ≤ _; omega⟩⟩
    · (repeat (with_reducible refine below_set ?_ (by omega) _))
      exact E3.out
    · simp only [World.size_setCell]
      refine Ints.more (lo := M5) (hi := C5) ?_ (by omega) (by omega)
      (repeat (with_reducible refine Ints.set_ ?_ (by omega) _))
      exact D3.out
    · simp only [World.size_setCell]
      refine Ints.more (lo := w1.heap.size) (hi := w2.heap.size) ?_ (by omega) (by omega)
      (repeat (with_reducible refine Ints.set_ ?_ (by omega) _))
      exact D3'.out
    · simp only [World.size_setCell]
      refine Ints.more (lo := M6) (hi := C6) ?_ (by omega) (by omega)
      (repeat (with_reducible refine Ints.set_ ?_ (by omega) _))
      exact D3r.out
set_option maxHeartbeats 8000000 in
theorem SCutWriter_x {A A' A2 : Option Addr} {n c n' c' n2 c2 : Nat} {D S R : List Int} {p q z : Int} {w : World} {L L' B B' M C : Nat} {N : Int} (h : Ints w L B A n D) (h' : Ints w L' B' A' n' S) (g : Ints w M C A2 n2 R) (hB : B ≤ w.heap.size) (hB' : B' ≤ w.heap.size) (hC : C ≤ w.heap.size) (hc : n ≤ c) (hc1 : n' ≤ c') (hc2 : n2 ≤ c2) (_hn : n ≤ 1048576) (_hn1 : n' ≤ 1048576) (_hn2 : n2 ≤ 1048576) (_hN : okInt N) :
    Calls Tryd.prog 28 #[.agg #[.slice (A) n c, .int .i64 (p), .slice (A') n' c', .int .i64 (q), .slice (A2) n2 c2, .int .i64 (z)], .int .i64 N] w (Post2I (ctwOut D p S q R z N) w) := by
  have HG := Lib.hid g.len
  have HL := Lib.hid h.len
  have HL' := Lib.hid h'.len
  have H1 : Hid (Ints ((w.alloc (.cells #[.slice (A) n c, .int .i64 (p), .slice (A') n' c', .int .i64 (q), .slice (A2) n2 c2, .int .i64 (z)] 27)).alloc (.cells #[.slice none 0 0, .int .i64 0, .slice none 0 0, .int .i64 0, .slice none 0 0, .int .i64 0] 27)) L B A n D) := (h.alloc hB _).alloc (by first | omega | (simp; omega) | (simp; done)) _
  have H2 : Hid (Ints ((w.alloc (.cells #[.slice (A) n c, .int .i64 (p), .slice (A') n' c', .int .i64 (q), .slice (A2) n2 c2, .int .i64 (z)] 27)).alloc (.cells #[.slice none 0 0, .int .i64 0, .slice none 0 0, .int .i64 0, .slice none 0 0, .int .i64 0] 27)) L' B' A' n' S) := (h'.alloc hB' _).alloc (by first | omega | (simp; omega) | (simp; done)) _
  have G1 : Hid (Ints ((w.alloc (.cells #[.slice (A) n c, .int .i64 (p), .slice (A') n' c', .int .i64 (q), .slice (A2) n2 c2, .int .i64 (z)] 27)).alloc (.cells #[.slice none 0 0, .int .i64 0, .slice none 0 0, .int .i64 0, .slice none 0 0, .int .i64 0] 27)) M C A2 n2 R) := (g.alloc hC _).alloc (by first | omega | (simp; omega) | (simp; done)) _
  have X0 : Hid (Box ((w.alloc (.cells #[.slice (A) n c, .int .i64 (p), .slice (A') n' c', .int .i64 (q), .slice (A2) n2 c2, .int .i64 (z)] 27)).alloc (.cells #[.slice none 0 0, .int .i64 0, .slice none 0 0, .int .i64 0, .slice none 0 0, .int .i64 0] 27)) w.heap.size [.slice (A) n c, .int .i64 (p), .slice (A') n' c', .int .i64 (q), .slice (A2) n2 c2, .int .i64 (z)]) := (Box.new w 27 [.slice (A) n c, .int .i64 (p), .slice (A') n' c', .int .i64 (q), .slice (A2) n2 c2, .int .i64 (z)]).alloc _
  have R0 : Hid (Box ((w.alloc (.cells #[.slice (A) n c, .int .i64 (p), .slice (A') n' c', .int .i64 (q), .slice (A2) n2 c2, .int .i64 (z)] 27)).alloc (.cells #[.slice none 0 0, .int .i64 0, .slice none 0 0, .int .i64 0, .slice none 0 0, .int .i64 0] 27)) (w.heap.size + 1) [.slice none 0 0, .int .i64 0, .slice none 0 0, .int .i64 0, .slice none 0 0, .int .i64 0]) := by
    have hx := Box.new (w.alloc (.cells #[.slice (A) n c, .int .i64 (p), .slice (A') n' c', .int .i64 (q), .slice (A2) n2 c2, .int .i64 (z)] 27)) 27 [.slice none 0 0, .int .i64 0, .slice none 0 0, .int .i64 0, .slice none 0 0, .int .i64 0]
    rw [World.size_alloc] at hx
    exact hx
  have E0 : Hid (Below w.heap.size w ((w.alloc (.cells #[.slice (A) n c, .int .i64 (p), .slice (A') n' c', .int .i64 (q), .slice (A2) n2 c2, .int .i64 (z)] 27)).alloc (.cells #[.slice none 0 0, .int .i64 0, .slice none 0 0, .int .i64 0, .slice none 0 0, .int .i64 0] 27))) := (by go_grown : Below w.heap.size w _)
  have s0 : (((w.alloc (.cells #[.slice (A) n c, .int .i64 (p), .slice (A') n' c', .int .i64 (q), .slice (A2) n2 c2, .int .i64 (z)] 27)).alloc (.cells #[.slice none 0 0, .int .i64 0, .slice none 0 0, .int .i64 0, .slice none 0 0, .int .i64 0] 27))).heap.size = w.heap.size + 2 := by simp
  clear h h' g
  have x0 := (X0.out.2 0 _ rfl).1; have x1 := (X0.out.2 1 _ rfl).1; have x2 := (X0.out.2 2 _ rfl).1; have x3 := (X0.out.2 3 _ rfl).1; have x4 := (X0.out.2 4 _ rfl).1; have x5 := (X0.out.2 5 _ rfl).1
  go_enter Tryd.func28, Tryd.ntmps28
  go_wp2_with fail
  generalize ((w.alloc (.cells #[.slice (A) n c, .int .i64 (p), .slice (A') n' c', .int .i64 (q), .slice (A2) n2 c2, .int .i64 (z)] 27)).alloc (.cells #[.slice none 0 0, .int .i64 0, .slice none 0 0, .int .i64 0, .slice none 0 0, .int .i64 0] 27)) = w0 at *
  clear x0 x1 x2 x3 x4 x5
  refine (sGoodWriter_any H1.out H2.out G1.out (by omega) (by omega) (by omega)).mono ?_
  rintro e w1 ⟨rfl, hb1⟩
  have s1 := hb1.size
  have E1 := Lib.hid (below_step hb1 E0.out (by omega))
  have X1 := Lib.hid (X0.out.below hb1 (by omega))
  have R1 := Lib.hid (R0.out.below hb1 (by omega))
  have I1 := Lib.hid (H1.out.below hb1 (by omega))
  have I2 := Lib.hid (H2.out.below hb1 (by omega))
  have G2 := Lib.hid (G1.out.below hb1 (by omega))
  clear hb1 H1 H2 G1 X0 R0 E0
  cases hg : goodW D p S q R z
  · have HO : Hid (ctwOut D p S q R z N = (Rv.zero, 5)) := by show _ = _; simp [ctwOut, hg]
    clear hg
    have r0 := (R1.out.2 0 _ rfl).1; have r1 := (R1.out.2 1 _ rfl).1; have r2 := (R1.out.2 2 _ rfl).1; have r3 := (R1.out.2 3 _ rfl).1; have r4 := (R1.out.2 4 _ rfl).1; have r5 := (R1.out.2 5 _ rfl).1
    have g0 := (R1.out.2 0 _ rfl).2; have g1 := (R1.out.2 1 _ rfl).2; have g2 := (R1.out.2 2 _ rfl).2; have g3 := (R1.out.2 3 _ rfl).2; have g4 := (R1.out.2 4 _ rfl).2; have g5 := (R1.out.2 5 _ rfl).2
    go_wp2
    refine bodyPost_ret (v := .tuple #[.agg #[.slice none 0 0, .int .i64 0, .slice none 0 0, .int .i64 0, .slice none 0 0, .int .i64 0], .int .i64 5]) (by simp [results, Tryd.results28, go_sem, r0, r1, r2, r3, r4, r5, g0, g1, g2, g3, g4, g5]) rfl ?_
    rw [HO.out]
    refine Post2I.zero ?_
    (repeat (with_reducible refine below_set ?_ (by omega) _))
    exact E1.out
  · cases hN : inB N 0 60
    · have HO : Hid (ctwOut D p S q R z N = (Rv.zero, 5)) := by show _ = _; simp [ctwOut, hN]
      clear hg
      have r0 := (R1.out.2 0 _ rfl).1; have r1 := (R1.out.2 1 _ rfl).1; have r2 := (R1.out.2 2 _ rfl).1; have r3 := (R1.out.2 3 _ rfl).1; have r4 := (R1.out.2 4 _ rfl).1; have r5 := (R1.out.2 5 _ rfl).1
      have g0 := (R1.out.2 0 _ rfl).2; have g1 := (R1.out.2 1 _ rfl).2; have g2 := (R1.out.2 2 _ rfl).2; have g3 := (R1.out.2 3 _ rfl).2; have g4 := (R1.out.2 4 _ rfl).2; have g5 := (R1.out.2 5 _ rfl).2
      go_wp2_with (go_at_call 71; refine (inRange_any).mono ?_; rintro e w' ⟨rfl, rfl⟩)
      refine bodyPost_ret (v := .tuple #[.agg #[.slice none 0 0, .int .i64 0, .slice none 0 0, .int .i64 0, .slice none 0 0, .int .i64 0], .int .i64 5]) (by simp [results, Tryd.results28, go_sem, r0, r1, r2, r3, r4, r5, g0, g1, g2, g3, g4, g5]) rfl ?_
      rw [HO.out]
      refine Post2I.zero ?_
      (repeat (with_reducible refine below_set ?_ (by omega) _))
      exact E1.out
    · have HO : Hid (ctwOut D p S q R z N = if (fuGo S R.length D p q.toNat R).st = 0 then (wvOf S z { fuGo S R.length D p q.toNat R with d := cutL (fuGo S R.length D p q.toNat R).d N.toNat }, 0) else (wvOf S z (fuGo S R.length D p q.toNat R), (fuGo S R.length D p q.toNat R).st)) := by show _ = _; simp [ctwOut, hg, hN]
      obtain ⟨hN0, hN1⟩ := inB_iff.1 hN
      obtain ⟨k, rfl⟩ := Int.eq_ofNat_of_zero_le hN0
      rw [Int.toNat_natCast] at HO
      obtain ⟨k1, k2, k3, k4, k5, k6, k7, k8⟩ := goodW_start hg
      obtain ⟨q0, rfl⟩ := Int.eq_ofNat_of_zero_le k6
      rw [Int.toNat_natCast] at HO k1 k2
      obtain ⟨i1, i2, i3, i4, i5⟩ := fuGo_valid R.length D p q0 R k1 k4 (by omega)
      obtain ⟨T, hT⟩ : ∃ T, fuGo S R.length D p q0 R = T := ⟨_, rfl⟩
      rw [hT] at i1 i2 i3 i4 i5 HO
      have HT := Lib.hid hT
      have HV := Lib.hid k1
      have HA := Lib.hid k4
      have HI1 := Lib.hid i1
      have HI5 := Lib.hid i5
      have hn60 : n ≤ 60 := by rw [HL.out]; exact k7
      have hn12 : n' ≤ 12 := by rw [HL'.out]; exact k8
      have hn16 : n2 ≤ 16 := by rw [HG.out]; exact k3
      obtain ⟨_, _, _, hp, _⟩ := validD_iff.1 k1
      clear hT hg k1 k4 i1 i2 i5
      have x0 := (X1.out.2 0 _ rfl).1; have x1 := (X1.out.2 1 _ rfl).1; have x2 := (X1.out.2 2 _ rfl).1; have x3 := (X1.out.2 3 _ rfl).1; have x4 := (X1.out.2 4 _ rfl).1; have x5 := (X1.out.2 5 _ rfl).1
      go_wp2_with (go_at_call 71; refine (inRange_any).mono ?_; rintro e w' ⟨rfl, rfl⟩)
      clear x0 x1 x2 x3 x4 x5
      refine (sCopyWriter_any I1.out I2.out G2.out (by omega) (by omega) (by omega) (by omega) (by omega) (by omega) (by unfold okInt; omega) (by unfold okInt; omega) (by unfold okInt; omega)).mono ?_
      rintro e w2 ⟨A3, n3, c3, A3', n3', c3', A4, n4, c4, rfl, ⟨hc3, hc3', hc4⟩, hb2, ⟨⟨hd, hd', ha, _, _⟩, hr, ha1, ha2, _⟩⟩
      have s2 := hb2.size
      have D2 := Lib.hid hd
      have D2' := Lib.hid hd'
      have D2r := Lib.hid hr
      have HAP := Lib.hid (And.intro ha (And.intro ha1 ha2))
      have R2 := Lib.hid (R1.out.below hb2 (by omega))
      have E2 := Lib.hid (below_step hb2 E1.out (by omega))
      clear hb2 hd hd' hr ha ha1 ha2 R1 E1 I1 I2 G2 X1
      have hflush := flushed_any (z := z) (c' := c3') D2.out D2'.out D2r.out (Nat.le_refl _) (Nat.le_refl _) (Nat.le_refl _) HAP.out.2.1 hc3 hc4 HV.out k2 k3 HA.out
      rw [HT.out] at hflush
      have HF := Lib.hid hflush
      clear hflush
      go_wp2_with fail
      refine HF.out.mono ?_
      rintro e w3 ⟨A5, n5, c5, A6, n6, c6, M5, C5, M6, C6, rfl, ⟨hc5, hc6⟩, hb3, ⟨hi5, hi6⟩, ⟨hC5, hC6⟩, hor5, hor6, hap⟩
      have s3 := hb3.size
      have D3 := Lib.hid hi5
      have D3r := Lib.hid hi6
      have D3' := Lib.hid (D2'.out.below hb3 (Nat.le_refl _))
      have R3 := Lib.hid (R2.out.below hb3 (by omega))
      have E3 := Lib.hid (below_step hb3 E2.out (by omega))
      have hM5 : w1.heap.size ≤ M5 := by rcases hor5 with ⟨_, _, rfl, _⟩ | h <;> omega
      have hM6 : w1.heap.size ≤ M6 := by rcases hor6 with ⟨_, _, rfl, _⟩ | h <;> omega
      have AP3 : Hid (Apart A5 n5 A3' n3' ∧ Apart A6 n6 A5 n5 ∧ Apart A6 n6 A3' n3') := by
        show _ ∧ _ ∧ _
        refine ⟨?_, hap, ?_⟩
        · rcases hor5 with ⟨rfl, rfl, _, _⟩ | h
          · exact HAP.out.1
          · exact (Apart.of_le D2'.out hi5 (by omega)).symm
        · rcases hor6 with ⟨rfl, rfl, _, _⟩ | h
          · exact HAP.out.2.2
          · exact (Apart.of_le D2'.out hi6 (by omega)).symm
      clear hb3 hi5 hi6 hap hor5 hor6 R2 E2 HF D2 D2' D2r HAP
      go_upto_region 4 with (fail)
      refine wp_renameW (fun w4 => Hid (Box w4 w3.heap.size [.slice (A5) n5 c5, .int .i64 (T.p), .slice (A3') n3' c3', .int .i64 ((T.q : Int)), .slice (A6) n6 c6, .int .i64 (z)]) ∧ Hid (Box w4 (w.heap.size + 1) [.slice none 0 0, .int .i64 0, .slice none 0 0, .int .i64 0, .slice none 0 0, .int .i64 0]) ∧ Hid (Below w.heap.size w w4) ∧ Hid (Ints w4 M5 C5 A5 n5 T.d) ∧ Hid (Ints w4 w1.heap.size w2.heap.size A3' n3' S) ∧ Hid (Ints w4 M6 C6 A6 n6 T.r) ∧ w3.heap.size < w4.heap.size) ⟨Box.new w3 27 [.slice (A5) n5 c5, .int .i64 (T.p), .slice (A3') n3' c3', .int .i64 ((T.q : Int)), .slice (A6) n6 c6, .int .i64 (z)], R3.out.alloc _, E3.out.alloc (by omega) _, D3.out.alloc (by omega) _, D3'.out.alloc (by omega) _, D3r.out.alloc (by omega) _, by simp⟩ ?_
      clear D3 D3r D3' R3 E3
      rintro w4 ⟨X4, R4, E4, D4, D4', D4r, s4⟩
      by_cases hst : T.st = 0
      · have HST := Lib.hid hst
        rw [if_pos hst] at HO
        have hn5 : n5 ≤ 1048576 := by have h1 := D4.out.len; have h2 := bytesB_le (validD_iff.1 HI1.out).1; omega
        rw [hst]
        clear hst
        have x0 := (X4.out.2 0 _ rfl).1; have x1 := (X4.out.2 1 _ rfl).1; have x2 := (X4.out.2 2 _ rfl).1; have x3 := (X4.out.2 3 _ rfl).1; have x4 := (X4.out.2 4 _ rfl).1; have x5 := (X4.out.2 5 _ rfl).1
        go_wp2_with fail
        clear x0 x1 x2 x3 x4 x5
        refine (sCut_any D4.out (by omega) hn5 (by omega) hc5).mono ?_
        rintro e w5 ⟨v5, rfl, hb5, hown5⟩
        obtain ⟨A7, c7, rfl, hc7, hi5⟩ := hown5.ints (cutL_ok D4.out.ok)
        rw [cutL_len] at hc7 hi5 ⊢
        have hown5 := hown5.len
        clear hown5
        have s5 := hb5.size
        have X5 := Lib.hid (X4.out.below hb5 (by omega))
        have R5 := Lib.hid (R4.out.below hb5 (by omega))
        have E5 := Lib.hid (below_step hb5 E4.out (by omega))
        have D5 := Lib.hid hi5
        have D5' := Lib.hid (D4'.out.below hb5 (by omega))
        have D5r := Lib.hid (D4r.out.below hb5 (by omega))
        have AP5 : Hid (Apart A7 k A3' n3' ∧ Apart A6 n6 A7 k ∧ Apart A6 n6 A3' n3') := ⟨(Apart.of_le D5'.out hi5 (by omega)).symm, Apart.of_le D5r.out hi5 (by omega), AP3.out.2.2⟩
        clear hb5 hi5 X4 R4 E4 D4 D4' D4r AP3
        have x0 := (X5.out.2 0 _ rfl).1; have x1 := (X5.out.2 1 _ rfl).1; have x2 := (X5.out.2 2 _ rfl).1; have x3 := (X5.out.2 3 _ rfl).1; have x4 := (X5.out.2 4 _ rfl).1; have x5 := (X5.out.2 5 _ rfl).1
        have f0 := (X5.out.2 0 _ rfl).2; have f1 := (X5.out.2 1 _ rfl).2; have f2 := (X5.out.2 2 _ rfl).2; have f3 := (X5.out.2 3 _ rfl).2; have f4 := (X5.out.2 4 _ rfl).2; have f5 := (X5.out.2 5 _ rfl).2
        go_upto_region 7 with (fail)
        clear x0 x1 x2 x3 x4 x5
        clear f0 f1 f2 f3 f4 f5
        refine wp_renameW (fun w6 => Hid (Box w6 w3.heap.size [.slice (A7) k c7, .int .i64 (T.p), .slice (A3') n3' c3', .int .i64 ((T.q : Int)), .slice (A6) n6 c6, .int .i64 (z)]) ∧ Hid (Box w6 (w.heap.size + 1) [.slice none 0 0, .int .i64 0, .slice none 0 0, .int .i64 0, .slice none 0 0, .int .i64 0]) ∧ Hid (Below w.heap.size w w6) ∧ Hid (Ints w6 w4.heap.size w5.heap.size A7 k (cutL T.d k)) ∧ Hid (Ints w6 w1.heap.size w2.heap.size A3' n3' S) ∧ Hid (Ints w6 M6 C6 A6 n6 T.r) ∧ w6.heap.size = w5.heap.size) ⟨?_, ?_, ?_, ?_, ?_, ?_, ?_⟩ ?_
        · have hx := X5.out.put (i := 0) (by simp) (.slice A7 k c7)
          show Box _ _ _
          simpa using hx
        · show Box _ _ _
          (repeat (with_reducible refine Box.set_ ?_ (by omega) _))
          exact R5.out
        · show Below _ _ _
          (repeat (with_reducible refine below_set ?_ (by omega) _))
          exact E5.out
        · show Ints _ _ _ _ _ _
          (repeat (with_reducible refine Ints.set_ ?_ (by omega) _))
          exact D5.out
        · show Ints _ _ _ _ _ _
          (repeat (with_reducible refine Ints.set_ ?_ (by omega) _))
          exact D5'.out
        · show Ints _ _ _ _ _ _
          (repeat (with_reducible refine Ints.set_ ?_ (by omega) _))
          exact D5r.out
        · simp only [World.size_setCell]
        clear X5 R5 E5 D5 D5' D5r
        rintro w6 ⟨X6, R6, E6, D6, D6', D6r, s6⟩
        have x0 := (X6.out.2 0 _ rfl).1; have x1 := (X6.out.2 1 _ rfl).1; have x2 := (X6.out.2 2 _ rfl).1; have x3 := (X6.out.2 3 _ rfl).1; have x4 := (X6.out.2 4 _ rfl).1; have x5 := (X6.out.2 5 _ rfl).1
        have r0 := (R6.out.2 0 _ rfl).1; have r1 := (R6.out.2 1 _ rfl).1; have r2 := (R6.out.2 2 _ rfl).1; have r3 := (R6.out.2 3 _ rfl).1; have r4 := (R6.out.2 4 _ rfl).1; have r5 := (R6.out.2 5 _ rfl).1
        have g0 := (R6.out.2 0 _ rfl).2; have g1 := (R6.out.2 1 _ rfl).2; have g2 := (R6.out.2 2 _ rfl).2; have g3 := (R6.out.2 3 _ rfl).2; have g4 := (R6.out.2 4 _ rfl).2; have g5 := (R6.out.2 5 _ rfl).2
        go_wp2
        refine bodyPost_ret (v := .tuple #[.agg #[.slice (A7) k c7, .int .i64 (T.p), .slice (A3') n3' c3', .int .i64 ((T.q : Int)), .slice (A6) n6 c6, .int .i64 (z)], .int .i64 0]) (by simp [results, Tryd.results28, go_sem, r0, r1, r2, r3, r4, r5, g0, g1, g2, g3, g4, g5]) rfl ?_
        rw [HO.out]
        obtain ⟨_, _, _, hp9, hq9⟩ := validD_iff.1 HI1.out
        refine ⟨A7, k, c7, A3', n3', c3', A6, n6, c6, rfl, ⟨hc7, hc3', hc6⟩, ?_, ⟨⟨?_, ?_, AP5.out.1, by unfold okInt; show _ ≤ T.p ∧ T.p ≤ _; omega, by unfold okInt; show _ ≤ (T.q : Int) ∧ (T.q : Int) ≤ _; omega⟩, ?_, AP5.out.2.1, AP5.out.2.2, by unfold okInt; show _ ≤ z ∧ z ≤ _; omega⟩⟩
        · (repeat (with_reducible refine below_set ?_ (by omega) _))
          exact E6.out
        · simp only [World.size_setCell]
          refine Ints.more (lo := w4.heap.size) (hi := w5.heap.size) ?_ (by omega) (by omega)
          (repeat (with_reducible refine Ints.set_ ?_ (by omega) _))
          exact D6.out
        · simp only [World.size_setCell]
          refine Ints.more (lo := w1.heap.size) (hi := w2.heap.size) ?_ (by omega) (by omega)
          (repeat (with_reducible refine Ints.set_ ?_ (by omega) _))
          exact D6'.out
        · simp only [World.size_setCell]
          refine Ints.more (lo := M6) (hi := C6) ?_ (by omega) (by omega)
          (repeat (with_reducible refine Ints.set_ ?_ (by omega) _))
          exact D6r.out
      · have hne : (T.st != 0) = true := by simpa using hst
        rw [if_neg hst] at HO
        clear hst
        have x0 := (X4.out.2 0 _ rfl).1; have x1 := (X4.out.2 1 _ rfl).1; have x2 := (X4.out.2 2 _ rfl).1; have x3 := (X4.out.2 3 _ rfl).1; have x4 := (X4.out.2 4 _ rfl).1; have x5 := (X4.out.2 5 _ rfl).1
        have r0 := (R4.out.2 0 _ rfl).1; have r1 := (R4.out.2 1 _ rfl).1; have r2 := (R4.out.2 2 _ rfl).1; have r3 := (R4.out.2 3 _ rfl).1; have r4 := (R4.out.2 4 _ rfl).1; have r5 := (R4.out.2 5 _ rfl).1
        have g0 := (R4.out.2 0 _ rfl).2; have g1 := (R4.out.2 1 _ rfl).2; have g2 := (R4.out.2 2 _ rfl).2; have g3 := (R4.out.2 3 _ rfl).2; have g4 := (R4.out.2 4 _ rfl).2; have g5 := (R4.out.2 5 _ rfl).2
        go_wp2
        refine bodyPost_ret (v := .tuple #[.agg #[.slice (A5) n5 c5, .int .i64 (T.p), .slice (A3') n3' c3', .int .i64 ((T.q : Int)), .slice (A6) n6 c6, .int .i64 (z)], .int .i64 T.st]) (by simp [results, Tryd.results28, go_sem, r0, r1, r2, r3, r4, r5, g0, g1, g2, g3, g4, g5]) rfl ?_
        rw [HO.out]
        obtain ⟨_, _, _, hp9, hq9⟩ := validD_iff.1 HI1.out
        refine ⟨A5, n5, c5, A3', n3', c3', A6, n6, c6, rfl, ⟨hc5, hc3', hc6⟩, ?_, ⟨⟨?_, ?_, AP3.out.1, by unfold okInt; show _ ≤ T.p ∧ T.p ≤ _; omega, by unfold okInt; show _ ≤ (T.q : Int) ∧ (T.q : Int) ≤ _; omega⟩, ?_, AP3.out.2.1, AP3.out.2.2, by unfold okInt; show _ ≤ z ∧ z ≤ _; omega⟩⟩
        · (repeat (with_reducible refine below_set ?_ (by omega) _))
          exact E4.out
        · simp only [World.size_setCell]
          refine Ints.more (lo := M5) (hi := C5) ?_ (by omega) (by omega)
          (repeat (with_reducible refine Ints.set_ ?_ (by omega) _))
          exact D4.out
        · simp only [World.size_setCell]
          refine Ints.more (lo := w1.heap.size) (hi := w2.heap.size) ?_ (by omega) (by omega)
          (repeat (with_reducible refine Ints.set_ ?_ (by omega) _))
          exact D4'.out
        · simp only [World.size_setCell]
          refine Ints.more (lo := M6) (hi := C6) ?_ (by omega) (by omega)
          (repeat (with_reducible refine Ints.set_ ?_ (by omega) _))
          exact D4r.out
end Go.Proofs.YtdgfcbnfhengiaaDoor
