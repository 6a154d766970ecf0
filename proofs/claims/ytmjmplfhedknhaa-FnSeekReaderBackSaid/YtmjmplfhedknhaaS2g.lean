/- The model's ReadFull, ReadRest and ReadSome. -/
import Derived.Test.YtmjmplfhedknhaaS2f
namespace Go.Proofs.Ytmjmplfhedknhaa
open Go.ChangeShapes Go.WideShapes Go.ChangeAt Go.RowKit
set_option linter.unusedSimpArgs false
set_option linter.unusedVariables false
set_option maxRecDepth 10000

theorem rs_post2 {w w4 : World} {lo n c n' c' n5 c5 n6 c6 : Nat} {A A' A5 A6 : Option Addr} {D S : List Int} {z : Int} {T : Rs} {u0 u1 u2 u3 u4 u5 : Value} (hE : Below w.heap.size w w4) (hlo : w.heap.size + 2 ≤ lo) (hD : Ints w4 lo w4.heap.size A n D) (hS : Ints w4 lo w4.heap.size A' n' S) (hR : Ints w4 lo w4.heap.size A5 n5 T.r)
    (hi : Ints w4 lo w4.heap.size A6 n6 T.out) (p1 : Apart A6 n6 A5 n5) (p2 : Apart A6 n6 A n) (p3 : Apart A6 n6 A' n') (ha : Apart A n A' n') (ha1 : Apart A5 n5 A n) (ha2 : Apart A5 n5 A' n') (hinv : RsV D S T) (hz : 1 ≤ z ∧ z ≤ 16) (hc : n ≤ c) (hc' : n' ≤ c') (hc5 : n5 ≤ c5) (hc6 : n6 ≤ c6) :
    Post3R (rsOut D S z T) w (.returned (.tuple #[.agg #[.slice (A) n c, .int .i64 (T.p), .slice (A') n' c', .int .i64 ((T.a : Int)), .slice (A5) n5 c5, .int .i64 (z)], .slice A6 n6 c6, .int .i64 T.st])) ((((((w4.setCell ⟨w.heap.size + 1, 0, none⟩ u0).setCell ⟨w.heap.size + 1, 1, none⟩ u1).setCell ⟨w.heap.size + 1, 2, none⟩ u2).setCell ⟨w.heap.size + 1, 3, none⟩ u3).setCell ⟨w.heap.size + 1, 4, none⟩ u4).setCell ⟨w.heap.size + 1, 5, none⟩ u5) := by
  obtain ⟨hv, hs0, hs5⟩ := hinv
  obtain ⟨_, _, _, hp, hq⟩ := validD_iff.1 hv
  have far : ∀ {X : Option Addr} {m : Nat} {xs : List Int}, Ints w4 lo w4.heap.size X m xs → Ints ((((((w4.setCell ⟨w.heap.size + 1, 0, none⟩ u0).setCell ⟨w.heap.size + 1, 1, none⟩ u1).setCell ⟨w.heap.size + 1, 2, none⟩ u2).setCell ⟨w.heap.size + 1, 3, none⟩ u3).setCell ⟨w.heap.size + 1, 4, none⟩ u4).setCell ⟨w.heap.size + 1, 5, none⟩ u5) w.heap.size w4.heap.size X m xs := by
    intro X m xs h
    refine Ints.more (lo := lo) (hi := w4.heap.size) ?_ (by omega) (Nat.le_refl _)
    (repeat (with_reducible refine Ints.set_ ?_ (by omega) _))
    exact h
  refine ⟨A, n, c, A', n', c', A5, n5, c5, A6, n6, c6, rfl, ⟨hc, hc', hc5, hc6⟩, ?_, ⟨⟨?_, ?_, ha, ?_, ?_⟩, ?_, ha1, ha2, ?_⟩, ?_, p2, p3, p1, ?_⟩
  · (repeat (with_reducible refine below_set ?_ (by omega) _))
    exact hE
  · simp only [World.size_setCell]
    exact far hD
  · simp only [World.size_setCell]
    exact far hS
  · unfold okInt; show _ ≤ T.p ∧ T.p ≤ _; omega
  · unfold okInt; show _ ≤ (T.a : Int) ∧ (T.a : Int) ≤ _; omega
  · simp only [World.size_setCell]
    exact far hR
  · unfold okInt; show _ ≤ z ∧ z ≤ _; omega
  · simp only [World.size_setCell]
    exact far hi
  · unfold okInt; show _ ≤ T.st ∧ T.st ≤ _; omega
set_option maxHeartbeats 4000000 in
theorem SReadFull_any {A A' A2 : Option Addr} {n c n' c' n2 c2 : Nat} {D S R : List Int} {p q z N : Int} {w : World} {L L' B B' M C : Nat} (h : Ints w L B A n D) (h' : Ints w L' B' A' n' S) (g : Ints w M C A2 n2 R) (hB : B ≤ w.heap.size) (hB' : B' ≤ w.heap.size) (hC : C ≤ w.heap.size) (hnc : n ≤ c) :
    Calls Try.prog 19 #[.agg #[.slice (A) n c, .int .i64 (p), .slice (A') n' c', .int .i64 (q), .slice (A2) n2 c2, .int .i64 (z)], .int .i64 N] w (Post3R (fullOut D p S q R z N) w) := by
  have HG := Lib.hid g.len
  have HL := Lib.hid h.len
  have HL' := Lib.hid h'.len
  have H1 : Hid (Ints ((w.alloc (.cells #[.slice (A) n c, .int .i64 (p), .slice (A') n' c', .int .i64 (q), .slice (A2) n2 c2, .int .i64 (z)] 27)).alloc (.cells #[.slice none 0 0, .int .i64 0, .slice none 0 0, .int .i64 0, .slice none 0 0, .int .i64 0] 27)) L B A n D) := (h.alloc hB _).alloc (by first | omega | (simp; omega) | (simp; done)) _
  have H2 : Hid (Ints ((w.alloc (.cells #[.slice (A) n c, .int .i64 (p), .slice (A') n' c', .int .i64 (q), .slice (A2) n2 c2, .int .i64 (z)] 27)).alloc (.cells #[.slice none 0 0, .int .i64 0, .slice none 0 0, .int .i64 0, .slice none 0 0, .int .i64 0] 27)) L' B' A' n' S) := (h'.alloc hB' _).alloc (by first | omega | (simp; omega) | (simp; done)) _
  have G1 : Hid (Ints ((w.alloc (.cells #[.slice (A) n c, .int .i64 (p), .slice (A') n' c', .int .i64 (q), .slice (A2) n2 c2, .int .i64 (z)] 27)).alloc (.cells #[.slice none 0 0, .int .i64 0, .slice none 0 0, .int .i64 0, .slice none 0 0, .int .i64 0] 27)) M C A2 n2 R) := (g.alloc hC _).alloc (by first | omega | (simp; omega) | (simp; done)) _
  have X0 : Hid (Box ((w.alloc (.cells #[.slice (A) n c, .int .i64 (p), .slice (A') n' c', .int .i64 (q), .slice (A2) n2 c2, .int .i64 (z)] 27)).alloc (.cells #[.slice none 0 0, .int .i64 0, .slice none 0 0, .int .i64 0, .slice none 0 0, .int .i64 0] 27)) w.heap.size [.slice (A) n c, .int .i64 (p), .slice (A') n' c', .int .i64 (q), .slice (A2) n2 c2, .int .i64 (z)]) := (Box.new w 27 [.slice (A) n c, .int .i64 (p), .slice (A') n' c', .int .i64 (q), .slice (A2) n2 c2, .int .i64 (z)]).alloc _
  have R0 : Hid (Box ((w.alloc (.cells #[.slice (A) n c, .int .i64 (p), .slice (A') n' c', .int .i64 (q), .slice (A2) n2 c2, .int .i64 (z)] 27)).alloc (.cells #[.slice none 0 0, .int .i64 0, .slice none 0 0, .int .i64 0, .slice none 0 0, .int .i64 0] 27)) (w.heap.size + 1) [.slice none 0 0, .int .i64 0, .slice none 0 0, .int .i64 0, .slice none 0 0, .int .i64 0]) := by
    have hx := Box.new (w.alloc (.cells #[.slice (A) n c, .int .i64 (p), .slice (A') n' c', .int .i64 (q), .slice (A2) n2 c2, .int .i64 (z)] 27)) 27 [.slice none 0 0, .int .i64 0, .slice none 0 0, .int .i64 0, .slice none 0 0, .int .i64 0]
    rw [World.size_alloc] at hx
    exact hx
  have E0 : Hid (Below w.heap.size w ((w.alloc (.cells #[.slice (A) n c, .int .i64 (p), .slice (A') n' c', .int .i64 (q), .slice (A2) n2 c2, .int .i64 (z)] 27)).alloc (.cells #[.slice none 0 0, .int .i64 0, .slice none 0 0, .int .i64 0, .slice none 0 0, .int .i64 0] 27))) := (by go_grown : Below w.heap.size w _)
  have s0 : (((w.alloc (.cells #[.slice (A) n c, .int .i64 (p), .slice (A') n' c', .int .i64 (q), .slice (A2) n2 c2, .int .i64 (z)] 27)).alloc (.cells #[.slice none 0 0, .int .i64 0, .slice none 0 0, .int .i64 0, .slice none 0 0, .int .i64 0] 27))).heap.size = w.heap.size + 2 := by simp
  clear h h' g
  go_enter Try.func19, Try.ntmps19
  go_wp2_with fail
  generalize ((w.alloc (.cells #[.slice (A) n c, .int .i64 (p), .slice (A') n' c', .int .i64 (q), .slice (A2) n2 c2, .int .i64 (z)] 27)).alloc (.cells #[.slice none 0 0, .int .i64 0, .slice none 0 0, .int .i64 0, .slice none 0 0, .int .i64 0] 27)) = w0 at *
  refine (sGoodReader_any H1.out H2.out G1.out (by omega) (by omega) (by omega)).mono ?_
  rintro e w1 ⟨rfl, hb1⟩
  have s1 := hb1.size
  have E1 := Lib.hid (below_step hb1 E0.out (by omega))
  have X1 := Lib.hid (X0.out.below hb1 (by omega))
  have R1 := Lib.hid (R0.out.below hb1 (by omega))
  have I1 := Lib.hid (H1.out.below hb1 (by omega))
  have I2 := Lib.hid (H2.out.below hb1 (by omega))
  have G2 := Lib.hid (G1.out.below hb1 (by omega))
  clear hb1 H1 H2 G1 X0 R0 E0
  cases hg : goodR D p S q R z
  · have HO : Hid (fullOut D p S q R z N = (Rv.zero, [], 5)) := by show _ = _; simp [fullOut, hg]
    clear hg
    have r0 := (R1.out.2 0 _ rfl).1; have r1 := (R1.out.2 1 _ rfl).1; have r2 := (R1.out.2 2 _ rfl).1; have r3 := (R1.out.2 3 _ rfl).1; have r4 := (R1.out.2 4 _ rfl).1; have r5 := (R1.out.2 5 _ rfl).1
    have g0 := (R1.out.2 0 _ rfl).2; have g1 := (R1.out.2 1 _ rfl).2; have g2 := (R1.out.2 2 _ rfl).2; have g3 := (R1.out.2 3 _ rfl).2; have g4 := (R1.out.2 4 _ rfl).2; have g5 := (R1.out.2 5 _ rfl).2
    go_wp2
    refine bodyPost_ret (v := .tuple #[.agg #[.slice none 0 0, .int .i64 0, .slice none 0 0, .int .i64 0, .slice none 0 0, .int .i64 0], .slice none 0 0, .int .i64 5]) (by simp [results, Try.results19, go_sem, r0, r1, r2, r3, r4, r5, g0, g1, g2, g3, g4, g5]) rfl ?_
    rw [HO.out]
    refine Post3R.zero ?_
    (repeat (with_reducible refine below_set ?_ (by omega) _))
    exact E1.out
  · obtain ⟨hvr, hq9⟩ := goodR_iff.1 hg
    cases hi0 : inB N 0 60
    · have HO : Hid (fullOut D p S q R z N = (Rv.zero, [], 5)) := by show _ = _; simp [fullOut, hg, hi0]
      clear hg hvr
      have r0 := (R1.out.2 0 _ rfl).1; have r1 := (R1.out.2 1 _ rfl).1; have r2 := (R1.out.2 2 _ rfl).1; have r3 := (R1.out.2 3 _ rfl).1; have r4 := (R1.out.2 4 _ rfl).1; have r5 := (R1.out.2 5 _ rfl).1
      have g0 := (R1.out.2 0 _ rfl).2; have g1 := (R1.out.2 1 _ rfl).2; have g2 := (R1.out.2 2 _ rfl).2; have g3 := (R1.out.2 3 _ rfl).2; have g4 := (R1.out.2 4 _ rfl).2; have g5 := (R1.out.2 5 _ rfl).2
      go_wp2_with (go_at_call 43; refine (inRange_any).mono ?_; rintro e w' ⟨rfl, rfl⟩)
      refine bodyPost_ret (v := .tuple #[.agg #[.slice none 0 0, .int .i64 0, .slice none 0 0, .int .i64 0, .slice none 0 0, .int .i64 0], .slice none 0 0, .int .i64 5]) (by simp [results, Try.results19, go_sem, r0, r1, r2, r3, r4, r5, g0, g1, g2, g3, g4, g5]) rfl ?_
      rw [HO.out]
      refine Post3R.zero ?_
      (repeat (with_reducible refine below_set ?_ (by omega) _))
      exact E1.out
    · have hj0 := inB_iff.1 hi0
      obtain ⟨hvd, hz, hRz, hah⟩ := validR_iff.1 hvr
      obtain ⟨hb, hs12, _, hp, hq⟩ := validD_iff.1 hvd
      have hn60 : n ≤ 60 := by rw [HL.out]; exact bytesB_le hb
      have hn12 : n' ≤ 12 := by rw [HL'.out]; exact hs12
      have hn16 : n2 ≤ 16 := by have := HG.out; omega
      obtain ⟨a, rfl⟩ := Int.eq_ofNat_of_zero_le hq.1
      have hK := start_ok hvr
      obtain ⟨N, rfl⟩ := Int.eq_ofNat_of_zero_le (show 0 ≤ N by omega)
      obtain ⟨T, hT⟩ : ∃ T, fullGo D S z N 62 p a R [] = T := ⟨_, rfl⟩
      have HO : Hid (fullOut D p S a R z N = rsOut D S z T) := by show _ = _; rw [← hT]; simp [fullOut, hg, hi0]
      have hinv := fullGo_inv (N := N) hz.1 62 p a R [] hvd (by simpa using hK) (by simp; omega)
      rw [hT] at hinv
      have HI := Lib.hid (RsOk.v hinv)
      have HVD := Lib.hid hvd
      have HT := Lib.hid hT
      have HKK := Lib.hid hK
      clear hg hvr hb hs12 hah hT hvd hinv hK
      have x0 := (X1.out.2 0 _ rfl).1; have x1 := (X1.out.2 1 _ rfl).1; have x2 := (X1.out.2 2 _ rfl).1; have x3 := (X1.out.2 3 _ rfl).1; have x4 := (X1.out.2 4 _ rfl).1; have x5 := (X1.out.2 5 _ rfl).1
      go_wp2_with (first | (go_at_call 43; refine (inRange_any).mono ?_; rintro e w' ⟨rfl, rfl⟩) | fail)
      refine (sCopyReader_any I1.out I2.out G2.out (by omega) (by omega) (by omega) (by omega) (by omega) (by omega) (by unfold okInt; omega) (by unfold okInt; omega) (by unfold okInt; omega)).mono ?_
      rintro e w2 ⟨A3, n3, c3, A3', n3', c3', A4, n4, c4, rfl, ⟨hc3, hc3', hc4⟩, hb2, ⟨⟨h1, h2, ha, _, _⟩, h3, ha1, ha2, _⟩⟩
      have s2 := hb2.size
      have R2 := Lib.hid (R1.out.below hb2 (by omega))
      have E2 := Lib.hid (below_step hb2 E1.out (by omega))
      have D2 := Lib.hid h1
      have S2 := Lib.hid h2
      have B2 := Lib.hid h3
      have HA := Lib.hid (And.intro ha (And.intro ha1 ha2))
      clear hb2 h1 h2 h3 ha ha1 ha2 R1 E1 I1 I2 G2 X1
      clear x0 x1 x2 x3 x4 x5
      have hcall := sReadFull0_any (N := N) (c' := c3') D2.out S2.out B2.out (by omega) (by omega) (by omega) hc3 hc4 HVD.out (by omega) hz.1 (by omega) HKK.out (by omega)
      rw [HT.out] at hcall
      have HC := Lib.hid hcall
      clear hcall
      go_wp2_with fail
      refine HC.out.mono ?_
      rintro e w3 ⟨A6, n6, c6, A5, n5, c5, M', C', rfl, hc6, hc5, hb3, hi5, hC5, hor, hi6, hap⟩
      have s3 := hb3.size
      have R3 := Lib.hid (R2.out.below hb3 (by omega))
      have E3 := Lib.hid (below_step hb3 E2.out (by omega))
      have D3 := Lib.hid (D2.out.below hb3 (by omega))
      have S3 := Lib.hid (S2.out.below hb3 (by omega))
      have hlo5 : w1.heap.size ≤ M' := by
        rcases hor with ⟨_, _, rfl, _⟩ | h <;> omega
      have hap5 : Apart A5 n5 A3 n3 ∧ Apart A5 n5 A3' n3' := by
        rcases hor with ⟨rfl, rfl, _, _⟩ | h
        · exact HA.out.2
        · exact ⟨(Apart.of_le D3.out hi5 (by omega)).symm, (Apart.of_le S3.out hi5 (by omega)).symm⟩
      have hap6 : Apart A6 n6 A3 n3 ∧ Apart A6 n6 A3' n3' := ⟨(Apart.of_le D3.out hi6 (by omega)).symm, (Apart.of_le S3.out hi6 (by omega)).symm⟩
      have HI5 := Lib.hid (hi5.more hlo5 hC5)
      have HI6 := Lib.hid (hi6.more (lo' := w1.heap.size) (by omega) (Nat.le_refl _))
      have HP := Lib.hid (And.intro hap (And.intro hap5 hap6))
      clear hb3 hi5 hi6 hor hap hap5 hap6 HC R2 E2 D2 S2 B2
      have r0 := (R3.out.2 0 _ rfl).1; have r1 := (R3.out.2 1 _ rfl).1; have r2 := (R3.out.2 2 _ rfl).1; have r3 := (R3.out.2 3 _ rfl).1; have r4 := (R3.out.2 4 _ rfl).1; have r5 := (R3.out.2 5 _ rfl).1
      have g0 := (R3.out.2 0 _ rfl).2; have g1 := (R3.out.2 1 _ rfl).2; have g2 := (R3.out.2 2 _ rfl).2; have g3 := (R3.out.2 3 _ rfl).2; have g4 := (R3.out.2 4 _ rfl).2; have g5 := (R3.out.2 5 _ rfl).2
      go_wp2
      refine bodyPost_ret (v := .tuple #[.agg #[.slice (A3) n3 c3, .int .i64 (T.p), .slice (A3') n3' c3', .int .i64 ((T.a : Int)), .slice (A5) n5 c5, .int .i64 (z)], .slice A6 n6 c6, .int .i64 T.st]) (by simp [results, Try.results19, go_sem, r0, r1, r2, r3, r4, r5, g0, g1, g2, g3, g4, g5]) rfl ?_
      rw [HO.out]
      exact rs_post2 (lo := w1.heap.size) E3.out (by omega) (D3.out.more (Nat.le_refl _) (by omega)) (S3.out.more (Nat.le_refl _) (by omega)) HI5.out HI6.out HP.out.1 HP.out.2.2.1 HP.out.2.2.2 HA.out.1 HP.out.2.1.1 HP.out.2.1.2 HI.out hz hc3 hc3' hc5 hc6
theorem SReadFull_x {A A' A2 : Option Addr} {n c n' c' n2 c2 : Nat} {D S R : List Int} {p q z N : Int} {w : World} {L L' B B' M C : Nat} (h : Ints w L B A n D) (h' : Ints w L' B' A' n' S) (g : Ints w M C A2 n2 R) (hB : B ≤ w.heap.size) (hB' : B' ≤ w.heap.size) (hC : C ≤ w.heap.size) (hc : n ≤ c) (_hc1 : n' ≤ c') (_hc2 : n2 ≤ c2) (_hn : n ≤ 1048576) (_hn1 : n' ≤ 1048576) (_hn2 : n2 ≤ 1048576) (_hN : okInt N) :
    Calls Try.prog 19 #[.agg #[.slice (A) n c, .int .i64 (p), .slice (A') n' c', .int .i64 (q), .slice (A2) n2 c2, .int .i64 (z)], .int .i64 N] w (Post3R (fullOut D p S q R z N) w) := SReadFull_any h h' g hB hB' hC hc
theorem ReadFull_x {A A' A2 : Option Addr} {n c n' c' n2 c2 : Nat} {D S R : List Int} {p q z N : Int} {w : World} {L L' B B' M C : Nat} (h : Ints w L B A n D) (h' : Ints w L' B' A' n' S) (g : Ints w M C A2 n2 R) (hB : B ≤ w.heap.size) (hB' : B' ≤ w.heap.size) (hC : C ≤ w.heap.size) (hc : n ≤ c) (_hc1 : n' ≤ c') (_hc2 : n2 ≤ c2) (_hn : n ≤ 1048576) (_hn1 : n' ≤ 1048576) (_hn2 : n2 ≤ 1048576) (_hN : okInt N) :
    Calls Try.prog 18 #[.agg #[.slice (A) n c, .int .i64 (p), .slice (A') n' c', .int .i64 (q), .slice (A2) n2 c2, .int .i64 (z)], .int .i64 N] w (Post3R (fullOut D p S q R z N) w) := ReadFull_any h h' g hB hB' hC hc
theorem ReadRest_x {A A' A2 : Option Addr} {n c n' c' n2 c2 : Nat} {D S R : List Int} {p q z : Int} {w : World} {L L' B B' M C : Nat} (h : Ints w L B A n D) (h' : Ints w L' B' A' n' S) (g : Ints w M C A2 n2 R) (hB : B ≤ w.heap.size) (hB' : B' ≤ w.heap.size) (hC : C ≤ w.heap.size) (hc : n ≤ c) (_hc1 : n' ≤ c') (_hc2 : n2 ≤ c2) (_hn : n ≤ 1048576) (_hn1 : n' ≤ 1048576) (_hn2 : n2 ≤ 1048576) :
    Calls Try.prog 33 #[.agg #[.slice (A) n c, .int .i64 (p), .slice (A') n' c', .int .i64 (q), .slice (A2) n2 c2, .int .i64 (z)]] w (Post3R (restOut D p S q R z) w) := ReadRest_any h h' g hB hB' hC hc
set_option maxHeartbeats 4000000 in
theorem SReadSome_any {A A' A2 : Option Addr} {n c n' c' n2 c2 : Nat} {D S R : List Int} {p q z N : Int} {w : World} {L L' B B' M C : Nat} (h : Ints w L B A n D) (h' : Ints w L' B' A' n' S) (g : Ints w M C A2 n2 R) (hB : B ≤ w.heap.size) (hB' : B' ≤ w.heap.size) (hC : C ≤ w.heap.size) (hnc : n ≤ c) :
    Calls Try.prog 11 #[.agg #[.slice (A) n c, .int .i64 (p), .slice (A') n' c', .int .i64 (q), .slice (A2) n2 c2, .int .i64 (z)], .int .i64 N] w (Post3R (someOut D p S q R z N) w) := by
  have HG := Lib.hid g.len
  have HL := Lib.hid h.len
  have HL' := Lib.hid h'.len
  have H1 : Hid (Ints ((w.alloc (.cells #[.slice (A) n c, .int .i64 (p), .slice (A') n' c', .int .i64 (q), .slice (A2) n2 c2, .int .i64 (z)] 27)).alloc (.cells #[.slice none 0 0, .int .i64 0, .slice none 0 0, .int .i64 0, .slice none 0 0, .int .i64 0] 27)) L B A n D) := (h.alloc hB _).alloc (by first | omega | (simp; omega) | (simp; done)) _
  have H2 : Hid (Ints ((w.alloc (.cells #[.slice (A) n c, .int .i64 (p), .slice (A') n' c', .int .i64 (q), .slice (A2) n2 c2, .int .i64 (z)] 27)).alloc (.cells #[.slice none 0 0, .int .i64 0, .slice none 0 0, .int .i64 0, .slice none 0 0, .int .i64 0] 27)) L' B' A' n' S) := (h'.alloc hB' _).alloc (by first | omega | (simp; omega) | (simp; done)) _
  have G1 : Hid (Ints ((w.alloc (.cells #[.slice (A) n c, .int .i64 (p), .slice (A') n' c', .int .i64 (q), .slice (A2) n2 c2, .int .i64 (z)] 27)).alloc (.cells #[.slice none 0 0, .int .i64 0, .slice none 0 0, .int .i64 0, .slice none 0 0, .int .i64 0] 27)) M C A2 n2 R) := (g.alloc hC _).alloc (by first | omega | (simp; omega) | (simp; done)) _
  have X0 : Hid (Box ((w.alloc (.cells #[.slice (A) n c, .int .i64 (p), .slice (A') n' c', .int .i64 (q), .slice (A2) n2 c2, .int .i64 (z)] 27)).alloc (.cells #[.slice none 0 0, .int .i64 0, .slice none 0 0, .int .i64 0, .slice none 0 0, .int .i64 0] 27)) w.heap.size [.slice (A) n c, .int .i64 (p), .slice (A') n' c', .int .i64 (q), .slice (A2) n2 c2, .int .i64 (z)]) := (Box.new w 27 [.slice (A) n c, .int .i64 (p), .slice (A') n' c', .int .i64 (q), .slice (A2) n2 c2, .int .i64 (z)]).alloc _
  have R0 : Hid (Box ((w.alloc (.cells #[.slice (A) n c, .int .i64 (p), .slice (A') n' c', .int .i64 (q), .slice (A2) n2 c2, .int .i64 (z)] 27)).alloc (.cells #[.slice none 0 0, .int .i64 0, .slice none 0 0, .int .i64 0, .slice none 0 0, .int .i64 0] 27)) (w.heap.size + 1) [.slice none 0 0, .int .i64 0, .slice none 0 0, .int .i64 0, .slice none 0 0, .int .i64 0]) := by
    have hx := Box.new (w.alloc (.cells #[.slice (A) n c, .int .i64 (p), .slice (A') n' c', .int .i64 (q), .slice (A2) n2 c2, .int .i64 (z)] 27)) 27 [.slice none 0 0, .int .i64 0, .slice none 0 0, .int .i64 0, .slice none 0 0, .int .i64 0]
    rw [World.size_alloc] at hx
    exact hx
  have E0 : Hid (Below w.heap.size w ((w.alloc (.cells #[.slice (A) n c, .int .i64 (p), .slice (A') n' c', .int .i64 (q), .slice (A2) n2 c2, .int .i64 (z)] 27)).alloc (.cells #[.slice none 0 0, .int .i64 0, .slice none 0 0, .int .i64 0, .slice none 0 0, .int .i64 0] 27))) := (by go_grown : Below w.heap.size w _)
  have s0 : (((w.alloc (.cells #[.slice (A) n c, .int .i64 (p), .slice (A') n' c', .int .i64 (q), .slice (A2) n2 c2, .int .i64 (z)] 27)).alloc (.cells #[.slice none 0 0, .int .i64 0, .slice none 0 0, .int .i64 0, .slice none 0 0, .int .i64 0] 27))).heap.size = w.heap.size + 2 := by simp
  clear h h' g
  go_enter Try.func11, Try.ntmps11
  go_wp2_with fail
  generalize ((w.alloc (.cells #[.slice (A) n c, .int .i64 (p), .slice (A') n' c', .int .i64 (q), .slice (A2) n2 c2, .int .i64 (z)] 27)).alloc (.cells #[.slice none 0 0, .int .i64 0, .slice none 0 0, .int .i64 0, .slice none 0 0, .int .i64 0] 27)) = w0 at *
  refine (sGoodReader_any H1.out H2.out G1.out (by omega) (by omega) (by omega)).mono ?_
  rintro e w1 ⟨rfl, hb1⟩
  have s1 := hb1.size
  have E1 := Lib.hid (below_step hb1 E0.out (by omega))
  have X1 := Lib.hid (X0.out.below hb1 (by omega))
  have R1 := Lib.hid (R0.out.below hb1 (by omega))
  have I1 := Lib.hid (H1.out.below hb1 (by omega))
  have I2 := Lib.hid (H2.out.below hb1 (by omega))
  have G2 := Lib.hid (G1.out.below hb1 (by omega))
  clear hb1 H1 H2 G1 X0 R0 E0
  cases hg : goodR D p S q R z
  · have HO : Hid (someOut D p S q R z N = (Rv.zero, [], 5)) := by show _ = _; simp [someOut, hg]
    clear hg
    have r0 := (R1.out.2 0 _ rfl).1; have r1 := (R1.out.2 1 _ rfl).1; have r2 := (R1.out.2 2 _ rfl).1; have r3 := (R1.out.2 3 _ rfl).1; have r4 := (R1.out.2 4 _ rfl).1; have r5 := (R1.out.2 5 _ rfl).1
    have g0 := (R1.out.2 0 _ rfl).2; have g1 := (R1.out.2 1 _ rfl).2; have g2 := (R1.out.2 2 _ rfl).2; have g3 := (R1.out.2 3 _ rfl).2; have g4 := (R1.out.2 4 _ rfl).2; have g5 := (R1.out.2 5 _ rfl).2
    go_wp2
    refine bodyPost_ret (v := .tuple #[.agg #[.slice none 0 0, .int .i64 0, .slice none 0 0, .int .i64 0, .slice none 0 0, .int .i64 0], .slice none 0 0, .int .i64 5]) (by simp [results, Try.results11, go_sem, r0, r1, r2, r3, r4, r5, g0, g1, g2, g3, g4, g5]) rfl ?_
    rw [HO.out]
    refine Post3R.zero ?_
    (repeat (with_reducible refine below_set ?_ (by omega) _))
    exact E1.out
  · obtain ⟨hvr, hq9⟩ := goodR_iff.1 hg
    cases hi0 : inB N 1 60
    · have HO : Hid (someOut D p S q R z N = (Rv.zero, [], 5)) := by show _ = _; simp [someOut, hg, hi0]
      clear hg hvr
      have r0 := (R1.out.2 0 _ rfl).1; have r1 := (R1.out.2 1 _ rfl).1; have r2 := (R1.out.2 2 _ rfl).1; have r3 := (R1.out.2 3 _ rfl).1; have r4 := (R1.out.2 4 _ rfl).1; have r5 := (R1.out.2 5 _ rfl).1
      have g0 := (R1.out.2 0 _ rfl).2; have g1 := (R1.out.2 1 _ rfl).2; have g2 := (R1.out.2 2 _ rfl).2; have g3 := (R1.out.2 3 _ rfl).2; have g4 := (R1.out.2 4 _ rfl).2; have g5 := (R1.out.2 5 _ rfl).2
      go_wp2_with (go_at_call 43; refine (inRange_any).mono ?_; rintro e w' ⟨rfl, rfl⟩)
      refine bodyPost_ret (v := .tuple #[.agg #[.slice none 0 0, .int .i64 0, .slice none 0 0, .int .i64 0, .slice none 0 0, .int .i64 0], .slice none 0 0, .int .i64 5]) (by simp [results, Try.results11, go_sem, r0, r1, r2, r3, r4, r5, g0, g1, g2, g3, g4, g5]) rfl ?_
      rw [HO.out]
      refine Post3R.zero ?_
      (repeat (with_reducible refine below_set ?_ (by omega) _))
      exact E1.out
    · have hj0 := inB_iff.1 hi0
      obtain ⟨hvd, hz, hRz, hah⟩ := validR_iff.1 hvr
      obtain ⟨hb, hs12, _, hp, hq⟩ := validD_iff.1 hvd
      have hn60 : n ≤ 60 := by rw [HL.out]; exact bytesB_le hb
      have hn12 : n' ≤ 12 := by rw [HL'.out]; exact hs12
      have hn16 : n2 ≤ 16 := by have := HG.out; omega
      obtain ⟨a, rfl⟩ := Int.eq_ofNat_of_zero_le hq.1
      have hK := start_ok hvr
      obtain ⟨N, rfl⟩ := Int.eq_ofNat_of_zero_le (show 0 ≤ N by omega)
      obtain ⟨T, hT⟩ : ∃ T, someRs D S z N p a R = T := ⟨_, rfl⟩
      have HO : Hid (someOut D p S a R z N = rsOut D S z T) := by show _ = _; rw [← hT]; simp [someOut, hg, hi0]
      have hinv := someRs_inv (k := N) hz.1 hvd hK (by omega)
      rw [hT] at hinv
      have HI := Lib.hid (RsOk.v hinv)
      have HVD := Lib.hid hvd
      have HT := Lib.hid hT
      have HKK := Lib.hid hK
      clear hg hvr hb hs12 hah hT hvd hinv hK
      have x0 := (X1.out.2 0 _ rfl).1; have x1 := (X1.out.2 1 _ rfl).1; have x2 := (X1.out.2 2 _ rfl).1; have x3 := (X1.out.2 3 _ rfl).1; have x4 := (X1.out.2 4 _ rfl).1; have x5 := (X1.out.2 5 _ rfl).1
      go_wp2_with (first | (go_at_call 43; refine (inRange_any).mono ?_; rintro e w' ⟨rfl, rfl⟩) | fail)
      refine (sCopyReader_any I1.out I2.out G2.out (by omega) (by omega) (by omega) (by omega) (by omega) (by omega) (by unfold okInt; omega) (by unfold okInt; omega) (by unfold okInt; omega)).mono ?_
      rintro e w2 ⟨A3, n3, c3, A3', n3', c3', A4, n4, c4, rfl, ⟨hc3, hc3', hc4⟩, hb2, ⟨⟨h1, h2, ha, _, _⟩, h3, ha1, ha2, _⟩⟩
      have s2 := hb2.size
      have R2 := Lib.hid (R1.out.below hb2 (by omega))
      have E2 := Lib.hid (below_step hb2 E1.out (by omega))
      have D2 := Lib.hid h1
      have S2 := Lib.hid h2
      have B2 := Lib.hid h3
      have HA := Lib.hid (And.intro ha (And.intro ha1 ha2))
      clear hb2 h1 h2 h3 ha ha1 ha2 R1 E1 I1 I2 G2 X1
      clear x0 x1 x2 x3 x4 x5
      have hcall := filled_any (c' := c3') D2.out S2.out B2.out (by omega) (by omega) (by omega) hc3 hc4 HVD.out (by omega) hz.1 (by omega)
      have HC := Lib.hid hcall
      clear hcall
      go_wp2_with fail
      refine HC.out.mono ?_
      rintro e w3 ⟨A5, n5, c5, M', C', rfl, hc5, hb3, hi5, hC5, hor⟩
      have s3 := hb3.size
      have R3 := Lib.hid (R2.out.below hb3 (by omega))
      have E3 := Lib.hid (below_step hb3 E2.out (by omega))
      have D3 := Lib.hid (D2.out.below hb3 (by omega))
      have S3 := Lib.hid (S2.out.below hb3 (by omega))
      have hlo5 : w1.heap.size ≤ M' := by
        rcases hor with ⟨_, _, rfl, _⟩ | h <;> omega
      obtain ⟨st, hst⟩ : ∃ st, flS D S p a R = st := ⟨_, rfl⟩
      obtain ⟨p1, hp1⟩ : ∃ p1, flP D S z p a R = p1 := ⟨_, rfl⟩
      obtain ⟨a1, ha1⟩ : ∃ a1, flA a R = a1 := ⟨_, rfl⟩
      obtain ⟨R1, hR1⟩ : ∃ R1, flR D S z p a R = R1 := ⟨_, rfl⟩
      rw [hst, hp1, ha1]
      rw [hR1] at hi5
      have hR60 : R1.length ≤ 60 := by
        have h := (fl_step (R := R) HVD.out (by omega) hz.1).2.1
        rw [hR1] at h
        have := HKK.out
        omega
      have hn5 : n5 ≤ 1000 := by have := hi5.len; omega
      have HTT : Hid (T = ⟨p1, a1, R1.drop (min N n5), R1.take (min N n5), st⟩) := by
        show T = _
        have h := HT.out
        have hl := hi5.len
        unfold someRs at h
        rw [hst, hp1, ha1, hR1, ← hl] at h
        by_cases h0 : st = 0
        · rw [if_pos h0] at h; rw [← h, h0]
        · rw [if_neg h0] at h
          have hRn : R1 = [] := by
            rw [← hR1]; unfold flR
            unfold flS at hst
            by_cases hR : R = []
            · rw [if_pos hR]; rw [if_pos hR] at hst
              unfold rdL
              unfold rdSt at hst
              split at hst
              · rw [if_pos (by omega)]
              · split at hst
                · rw [if_pos (by omega)]
                · split at hst
                  · rw [List.drop_eq_nil_of_le (by omega)]; simp
                  · exact absurd hst.symm h0
            · rw [if_neg hR] at hst; exact absurd hst.symm h0
          rw [← h, hRn]; simp
      have HI5 := Lib.hid hi5
      clear hb3 hi5 hor HC R2 E2 D2 S2 B2 hst hp1 ha1 hR1
      go_upto_region 4 with (fail)
      refine wp_rename (fun w4 => Hid (Box w4 w3.heap.size [.slice (A3) n3 c3, .int .i64 (p1), .slice (A3') n3' c3', .int .i64 ((a1 : Int)), .slice (A5) n5 c5, .int .i64 (z)]) ∧ Hid (Box w4 (w.heap.size + 1) [.slice none 0 0, .int .i64 0, .slice none 0 0, .int .i64 0, .slice none 0 0, .int .i64 0]) ∧ Hid (Below w.heap.size w w4) ∧ Hid (Ints w4 M' C' A5 n5 R1) ∧ Hid (Ints w4 w1.heap.size w2.heap.size A3 n3 D) ∧ Hid (Ints w4 w1.heap.size w2.heap.size A3' n3' S) ∧ w3.heap.size < w4.heap.size) ⟨Box.new w3 27 [.slice (A3) n3 c3, .int .i64 (p1), .slice (A3') n3' c3', .int .i64 ((a1 : Int)), .slice (A5) n5 c5, .int .i64 (z)], R3.out.alloc _, E3.out.alloc (by omega) _, HI5.out.alloc hC5 _, D3.out.alloc (by omega) _, S3.out.alloc (by omega) _, by simp⟩ ?_
      clear R3 E3 HI5 D3 S3
      rintro w4 ⟨Y4, R4, E4, HI4, D4, S4, s4⟩
      have y0 := (Y4.out.2 0 _ rfl).1; have y1 := (Y4.out.2 1 _ rfl).1; have y2 := (Y4.out.2 2 _ rfl).1; have y3 := (Y4.out.2 3 _ rfl).1; have y4 := (Y4.out.2 4 _ rfl).1; have y5 := (Y4.out.2 5 _ rfl).1
      have f0 := (Y4.out.2 0 _ rfl).2; have f1 := (Y4.out.2 1 _ rfl).2; have f2 := (Y4.out.2 2 _ rfl).2; have f3 := (Y4.out.2 3 _ rfl).2; have f4 := (Y4.out.2 4 _ rfl).2; have f5 := (Y4.out.2 5 _ rfl).2
      obtain ⟨mm, hmm⟩ : ∃ mm, mm = min N n5 := ⟨_, rfl⟩
      rw [← hmm] at HTT
      have hmm2 : mm ≤ n5 := by omega
      have HMM := Lib.hid hmm
      clear hmm
      go_wp2_with fail
      clear y0 y1 y2 y3 y4 y5
      clear f0 f1 f2 f3 f4 f5
      refine (given_any HI4.out (by omega) hc5 hn5 (by omega) HMM.out).mono ?_
      rintro e w5 ⟨A7, c7, A8, n8, c8, Y, rfl, hc7, hc8, hb5, hY1, hY2, hi7, hi8⟩
      have s5 := hb5.size
      have Y5 := Lib.hid (Y4.out.below hb5 (by omega))
      have R5 := Lib.hid (R4.out.below hb5 (by omega))
      have E5 := Lib.hid (below_step hb5 E4.out (by omega))
      have D5 := Lib.hid (D4.out.below hb5 (by omega))
      have S5 := Lib.hid (S4.out.below hb5 (by omega))
      have HP := Lib.hid (And.intro (Apart.of_le hi7 hi8 (Nat.le_refl _)) (And.intro (And.intro (Apart.of_le D5.out hi8 (by omega)).symm (Apart.of_le S5.out hi8 (by omega)).symm) (And.intro (Apart.of_le D5.out hi7 (by omega)).symm (Apart.of_le S5.out hi7 (by omega)).symm)))
      have HI7 := Lib.hid hi7
      have HI8 := Lib.hid hi8
      clear hb5 hi7 hi8 Y4 R4 E4 HI4 D4 S4
      have y0 := (Y5.out.2 0 _ rfl).1; have y1 := (Y5.out.2 1 _ rfl).1; have y2 := (Y5.out.2 2 _ rfl).1; have y3 := (Y5.out.2 3 _ rfl).1; have y4 := (Y5.out.2 4 _ rfl).1; have y5 := (Y5.out.2 5 _ rfl).1
      have f0 := (Y5.out.2 0 _ rfl).2; have f1 := (Y5.out.2 1 _ rfl).2; have f2 := (Y5.out.2 2 _ rfl).2; have f3 := (Y5.out.2 3 _ rfl).2; have f4 := (Y5.out.2 4 _ rfl).2; have f5 := (Y5.out.2 5 _ rfl).2
      go_upto_region 5 with (fail)
      clear y0 y1 y2 y3 y4 y5
      clear f0 f1 f2 f3 f4 f5
      refine wp_rename (fun w6 => Hid (Box w6 w3.heap.size [.slice (A3) n3 c3, .int .i64 (p1), .slice (A3') n3' c3', .int .i64 ((a1 : Int)), .slice (A8) n8 c8, .int .i64 (z)]) ∧ Hid (Box w6 (w.heap.size + 1) [.slice none 0 0, .int .i64 0, .slice none 0 0, .int .i64 0, .slice none 0 0, .int .i64 0]) ∧ Hid (Below w.heap.size w w6) ∧ Hid (Ints w6 w4.heap.size Y A7 mm (R1.take mm)) ∧ Hid (Ints w6 Y w5.heap.size A8 n8 (R1.drop mm)) ∧ Hid (Ints w6 w1.heap.size w2.heap.size A3 n3 D) ∧ Hid (Ints w6 w1.heap.size w2.heap.size A3' n3' S) ∧ w5.heap.size = w6.heap.size) ⟨?_, ?_, ?_, ?_, ?_, ?_, ?_, ?_⟩ ?_
      · have hx := (((((Y5.out.put (i := 0) (by simp) (.slice A3 n3 c3)).put (i := 1) (by simp) (.int .i64 p1)).put (i := 2) (by simp) (.slice A3' n3' c3')).put (i := 3) (by simp) (.int .i64 (a1 : Int))).put (i := 4) (by simp) (.slice A8 n8 c8)).put (i := 5) (by simp) (.int .i64 z)
        show Box _ _ _
        simpa using hx
      · show Box _ _ _
        (repeat (with_reducible refine Box.set_ ?_ (by omega) _))
        exact R5.out
      · show Below _ _ _
        (repeat (with_reducible refine below_set ?_ (by omega) _))
        exact E5.out
      · show Ints _ _ _ _ _ _
        (repeat (with_reducible refine Ints.set_ ?_ (by omega) _))
        exact HI7.out
      · show Ints _ _ _ _ _ _
        (repeat (with_reducible refine Ints.set_ ?_ (by omega) _))
        exact HI8.out
      · show Ints _ _ _ _ _ _
        (repeat (with_reducible refine Ints.set_ ?_ (by omega) _))
        exact D5.out
      · show Ints _ _ _ _ _ _
        (repeat (with_reducible refine Ints.set_ ?_ (by omega) _))
        exact S5.out
      · simp only [World.size_setCell]
      clear Y5 R5 E5 D5 S5 HI7 HI8
      rintro w6 ⟨Y6, R6, E6, HI7, HI8, D6, S6, s6⟩
      have y0 := (Y6.out.2 0 _ rfl).1; have y1 := (Y6.out.2 1 _ rfl).1; have y2 := (Y6.out.2 2 _ rfl).1; have y3 := (Y6.out.2 3 _ rfl).1; have y4 := (Y6.out.2 4 _ rfl).1; have y5 := (Y6.out.2 5 _ rfl).1
      have r0 := (R6.out.2 0 _ rfl).1; have r1 := (R6.out.2 1 _ rfl).1; have r2 := (R6.out.2 2 _ rfl).1; have r3 := (R6.out.2 3 _ rfl).1; have r4 := (R6.out.2 4 _ rfl).1; have r5 := (R6.out.2 5 _ rfl).1
      have g0 := (R6.out.2 0 _ rfl).2; have g1 := (R6.out.2 1 _ rfl).2; have g2 := (R6.out.2 2 _ rfl).2; have g3 := (R6.out.2 3 _ rfl).2; have g4 := (R6.out.2 4 _ rfl).2; have g5 := (R6.out.2 5 _ rfl).2
      go_wp2
      refine bodyPost_ret (v := .tuple #[.agg #[.slice (A3) n3 c3, .int .i64 (p1), .slice (A3') n3' c3', .int .i64 ((a1 : Int)), .slice (A8) n8 c8, .int .i64 (z)], .slice A7 mm c7, .int .i64 st]) (by simp [results, Try.results11, go_sem, r0, r1, r2, r3, r4, r5, g0, g1, g2, g3, g4, g5]) rfl ?_
      rw [HO.out, HTT.out]
      exact rs_post2 (T := ⟨p1, a1, R1.drop mm, R1.take mm, st⟩) (lo := w1.heap.size) E6.out (by omega) (D6.out.more (Nat.le_refl _) (by omega)) (S6.out.more (Nat.le_refl _) (by omega)) (HI8.out.more (by omega) (by omega)) (HI7.out.more (by omega) (by omega)) HP.out.1 HP.out.2.2.1 HP.out.2.2.2 HA.out.1 HP.out.2.1.1 HP.out.2.1.2 (HTT.out ▸ HI.out) hz hc3 hc3' hc8 hc7
theorem SReadSome_x {A A' A2 : Option Addr} {n c n' c' n2 c2 : Nat} {D S R : List Int} {p q z N : Int} {w : World} {L L' B B' M C : Nat} (h : Ints w L B A n D) (h' : Ints w L' B' A' n' S) (g : Ints w M C A2 n2 R) (hB : B ≤ w.heap.size) (hB' : B' ≤ w.heap.size) (hC : C ≤ w.heap.size) (hc : n ≤ c) (_hc1 : n' ≤ c') (_hc2 : n2 ≤ c2) (_hn : n ≤ 1048576) (_hn1 : n' ≤ 1048576) (_hn2 : n2 ≤ 1048576) (_hN : okInt N) :
    Calls Try.prog 11 #[.agg #[.slice (A) n c, .int .i64 (p), .slice (A') n' c', .int .i64 (q), .slice (A2) n2 c2, .int .i64 (z)], .int .i64 N] w (Post3R (someOut D p S q R z N) w) := SReadSome_any h h' g hB hB' hC hc
theorem ReadSome_x {A A' A2 : Option Addr} {n c n' c' n2 c2 : Nat} {D S R : List Int} {p q z N : Int} {w : World} {L L' B B' M C : Nat} (h : Ints w L B A n D) (h' : Ints w L' B' A' n' S) (g : Ints w M C A2 n2 R) (hB : B ≤ w.heap.size) (hB' : B' ≤ w.heap.size) (hC : C ≤ w.heap.size) (hc : n ≤ c) (_hc1 : n' ≤ c') (_hc2 : n2 ≤ c2) (_hn : n ≤ 1048576) (_hn1 : n' ≤ 1048576) (_hn2 : n2 ≤ 1048576) (_hN : okInt N) :
    Calls Try.prog 10 #[.agg #[.slice (A) n c, .int .i64 (p), .slice (A') n' c', .int .i64 (q), .slice (A2) n2 c2, .int .i64 (z)], .int .i64 N] w (Post3R (someOut D p S q R z N) w) := ReadSome_any h h' g hB hB' hC hc
end Go.Proofs.Ytmjmplfhedknhaa
