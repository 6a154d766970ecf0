/- A file's cut, the program's CutBoth. -/
import Derived.Test.YtphkkalkajleiaaDoorC4c
import Derived.Test.YtphkkalkajleiaaDoorC3d
namespace Go.Proofs.YtphkkalkajleiaaDoor
open Go.ChangeShapes Go.WideShapes Go.ChangeAt Go.RowKit
set_option linter.unusedSimpArgs false
set_option linter.unusedVariables false
set_option maxRecDepth 10000

def cbOut (D : List Int) (p : Int) (S : List Int) (q : Int) (R Q : List Int) (z N : Int) : Bv × Int :=
  if goodB D p S q R Q z && inB N 0 60 then
    (if (fuGo S Q.length D p q.toNat Q).st = 0 then (⟨cutL (fuGo S Q.length D p q.toNat Q).d N.toNat, (fuGo S Q.length D p q.toNat Q).p - (R.length : Int), S, ((fuGo S Q.length D p q.toNat Q).q : Int), [], (fuGo S Q.length D p q.toNat Q).r, z⟩, 0) else (bvOf S R z (fuGo S Q.length D p q.toNat Q), (fuGo S Q.length D p q.toNat Q).st)) else (Bv.zero, 5)
theorem cbOut_le (D : List Int) (p : Int) (S : List Int) (q : Int) (R Q : List Int) (z N : Int) : LenB (cbOut D p S q R Q z N) := by
  unfold cbOut
  split
  · obtain ⟨hg, hN⟩ := Bool.and_eq_true_iff.1 ‹_›
    obtain ⟨h1, h2, h3, h4, h5⟩ := goodB_start hg
    obtain ⟨i1, i2, i3, i4, i5⟩ := fuGo_valid Q.length D p q.toNat Q h2 h4 (by have := (validB_len h1).2.2.2.1; omega)
    obtain ⟨hb, hs, _⟩ := validD_iff.1 i1
    have hl := validB_len h1
    have hN2 := inB_iff.1 hN
    split
    · exact ⟨by show (cutL _ _).length ≤ 60; rw [cutL_len]; omega, by show S.length ≤ 60; omega, by show ([] : List Int).length ≤ 60; simp, by show (fuGo S Q.length D p q.toNat Q).r.length ≤ 60; omega⟩
    · exact ⟨bytesB_le hb, by show S.length ≤ 60; omega, by show R.length ≤ 60; omega, by show (fuGo S Q.length D p q.toNat Q).r.length ≤ 60; omega⟩
  · exact ⟨by show ([] : List Int).length ≤ 60; simp, by show ([] : List Int).length ≤ 60; simp, by show ([] : List Int).length ≤ 60; simp, by show ([] : List Int).length ≤ 60; simp⟩
set_option maxHeartbeats 2000000 in
theorem goBack_any {A A' A2 A3 : Option Addr} {n c n' c' n2 c2 n3 c3 b : Nat} {p q z : Int} {w : World} (hX : Box w b [.slice (A) n c, .int .i64 (p), .slice (A') n' c', .int .i64 (q), .slice (A2) n2 c2, .slice (A3) n3 c3, .int .i64 (z)]) (hp : 0 ≤ p ∧ p ≤ 60) (hn2 : n2 ≤ 60) :
    Calls Tryd.prog 84 #[.pointer (some ⟨b, 0, none⟩)] w (fun e w' => e = .returned (.tuple #[]) ∧ Turn w.heap.size b w w' ∧ Box w' b [.slice (A) n c, .int .i64 (p - (n2 : Int)), .slice (A') n' c', .int .i64 (q), .slice (none) 0 0, .slice (A3) n3 c3, .int .i64 (z)]) := by
  have HX := Lib.hid hX
  have hw : IntKind.i64.wrap (p - (n2 : Int)) = p - (n2 : Int) := IntWalk.i64_in _ (by omega)
  have x0 := (HX.out.2 0 _ rfl).1; have x1 := (HX.out.2 1 _ rfl).1; have x2 := (HX.out.2 2 _ rfl).1; have x3 := (HX.out.2 3 _ rfl).1; have x4 := (HX.out.2 4 _ rfl).1; have x5 := (HX.out.2 5 _ rfl).1; have x6 := (HX.out.2 6 _ rfl).1
  have f0 := (HX.out.2 0 _ rfl).2; have f1 := (HX.out.2 1 _ rfl).2; have f2 := (HX.out.2 2 _ rfl).2; have f3 := (HX.out.2 3 _ rfl).2; have f4 := (HX.out.2 4 _ rfl).2; have f5 := (HX.out.2 5 _ rfl).2; have f6 := (HX.out.2 6 _ rfl).2
  clear hX
  go_enter Tryd.func84, Tryd.ntmps84
  go_wp2_with fail
  go_still_tail 14, (by kernel_rfl)
  change wpList _ _ _ _ _ w.drew
  go_wp2
  refine bodyPost_end (v := .tuple #[]) (by simp [results, Tryd.results84, go_sem]) rfl ?_
  refine ⟨rfl, ?_, ?_⟩
  · repeat (first | (with_reducible exact Turn.refl _ _ _) | (with_reducible refine Turn.put ?_ _) | (with_reducible refine Turn.drew ?_))
  · have hx := ((HX.out.put (i := 1) (by simp) (.int .i64 (p - (n2 : Int)))).put (i := 4) (by simp) (.slice none 0 0)).drew
    simpa using hx
set_option maxHeartbeats 8000000 in
theorem CutBoth_x {A A' A2 A3 : Option Addr} {n c n' c' n2 c2 n3 c3 : Nat} {D S R Q : List Int} {p q z : Int} {w : World} {L L' B B' M C U V : Nat} {E : Nat} {a0 a1 a2 : Addr} (hE : Errs w E a0 a1 a2) (hEw : E ≤ w.heap.size) (h : Ints w L B A n D) (h' : Ints w L' B' A' n' S) (g : Ints w M C A2 n2 R) (j : Ints w U V A3 n3 Q) (hB : B ≤ w.heap.size) (hB' : B' ≤ w.heap.size) (hC : C ≤ w.heap.size) (hV : V ≤ w.heap.size) {N : Int} (hc : n ≤ c) (_hc1 : n' ≤ c') (_hc2 : n2 ≤ c2) (hc3 : n3 ≤ c3) (_hn : n ≤ 1048576) (_hn1 : n' ≤ 1048576) (_hn2 : n2 ≤ 1048576) (_hn3 : n3 ≤ 1048576) (_hN : okInt N) :
    Calls Tryd.prog 46 #[.agg #[.slice (A) n c, .int .i64 (p), .slice (A') n' c', .int .i64 (q), .slice (A2) n2 c2, .slice (A3) n3 c3, .int .i64 (z)], .int .i64 N] w (PostBI (cbOut D p S q R Q z N) w) := by
  have HQ := Lib.hid j.len
  have HG := Lib.hid g.len
  have HL := Lib.hid h.len
  have HL' := Lib.hid h'.len
  have HE0 := Lib.hid hE
  have H10 : Hid (Ints ((w.alloc (.cells #[.slice (A) n c, .int .i64 (p), .slice (A') n' c', .int .i64 (q), .slice (A2) n2 c2, .slice (A3) n3 c3, .int .i64 (z)] 51)).alloc (.cells #[.slice none 0 0, .int .i64 0, .slice none 0 0, .int .i64 0, .slice none 0 0, .slice none 0 0, .int .i64 0] 51)) L B A n D) := (h.alloc hB _).alloc (by first | omega | (simp; omega) | (simp; done)) _
  have H20 : Hid (Ints ((w.alloc (.cells #[.slice (A) n c, .int .i64 (p), .slice (A') n' c', .int .i64 (q), .slice (A2) n2 c2, .slice (A3) n3 c3, .int .i64 (z)] 51)).alloc (.cells #[.slice none 0 0, .int .i64 0, .slice none 0 0, .int .i64 0, .slice none 0 0, .slice none 0 0, .int .i64 0] 51)) L' B' A' n' S) := (h'.alloc hB' _).alloc (by first | omega | (simp; omega) | (simp; done)) _
  have G0 : Hid (Ints ((w.alloc (.cells #[.slice (A) n c, .int .i64 (p), .slice (A') n' c', .int .i64 (q), .slice (A2) n2 c2, .slice (A3) n3 c3, .int .i64 (z)] 51)).alloc (.cells #[.slice none 0 0, .int .i64 0, .slice none 0 0, .int .i64 0, .slice none 0 0, .slice none 0 0, .int .i64 0] 51)) M C A2 n2 R) := (g.alloc hC _).alloc (by first | omega | (simp; omega) | (simp; done)) _
  have J0 : Hid (Ints ((w.alloc (.cells #[.slice (A) n c, .int .i64 (p), .slice (A') n' c', .int .i64 (q), .slice (A2) n2 c2, .slice (A3) n3 c3, .int .i64 (z)] 51)).alloc (.cells #[.slice none 0 0, .int .i64 0, .slice none 0 0, .int .i64 0, .slice none 0 0, .slice none 0 0, .int .i64 0] 51)) U V A3 n3 Q) := (j.alloc hV _).alloc (by first | omega | (simp; omega) | (simp; done)) _
  have X0 : Hid (Box ((w.alloc (.cells #[.slice (A) n c, .int .i64 (p), .slice (A') n' c', .int .i64 (q), .slice (A2) n2 c2, .slice (A3) n3 c3, .int .i64 (z)] 51)).alloc (.cells #[.slice none 0 0, .int .i64 0, .slice none 0 0, .int .i64 0, .slice none 0 0, .slice none 0 0, .int .i64 0] 51)) w.heap.size [.slice (A) n c, .int .i64 (p), .slice (A') n' c', .int .i64 (q), .slice (A2) n2 c2, .slice (A3) n3 c3, .int .i64 (z)]) := (Box.new w 51 [.slice (A) n c, .int .i64 (p), .slice (A') n' c', .int .i64 (q), .slice (A2) n2 c2, .slice (A3) n3 c3, .int .i64 (z)]).alloc _
  have R0 : Hid (Box ((w.alloc (.cells #[.slice (A) n c, .int .i64 (p), .slice (A') n' c', .int .i64 (q), .slice (A2) n2 c2, .slice (A3) n3 c3, .int .i64 (z)] 51)).alloc (.cells #[.slice none 0 0, .int .i64 0, .slice none 0 0, .int .i64 0, .slice none 0 0, .slice none 0 0, .int .i64 0] 51)) (w.heap.size + 1) [.slice none 0 0, .int .i64 0, .slice none 0 0, .int .i64 0, .slice none 0 0, .slice none 0 0, .int .i64 0]) := by
    have hx := Box.new (w.alloc (.cells #[.slice (A) n c, .int .i64 (p), .slice (A') n' c', .int .i64 (q), .slice (A2) n2 c2, .slice (A3) n3 c3, .int .i64 (z)] 51)) 51 [.slice none 0 0, .int .i64 0, .slice none 0 0, .int .i64 0, .slice none 0 0, .slice none 0 0, .int .i64 0]
    rw [World.size_alloc] at hx
    exact hx
  have E0 : Hid (Below w.heap.size w ((w.alloc (.cells #[.slice (A) n c, .int .i64 (p), .slice (A') n' c', .int .i64 (q), .slice (A2) n2 c2, .slice (A3) n3 c3, .int .i64 (z)] 51)).alloc (.cells #[.slice none 0 0, .int .i64 0, .slice none 0 0, .int .i64 0, .slice none 0 0, .slice none 0 0, .int .i64 0] 51))) := (by go_grown : Below w.heap.size w _)
  have s0 : (((w.alloc (.cells #[.slice (A) n c, .int .i64 (p), .slice (A') n' c', .int .i64 (q), .slice (A2) n2 c2, .slice (A3) n3 c3, .int .i64 (z)] 51)).alloc (.cells #[.slice none 0 0, .int .i64 0, .slice none 0 0, .int .i64 0, .slice none 0 0, .slice none 0 0, .int .i64 0] 51))).heap.size = w.heap.size + 2 := by simp
  clear h h' g j hE
  have x0 := (X0.out.2 0 _ rfl).1; have x1 := (X0.out.2 1 _ rfl).1; have x2 := (X0.out.2 2 _ rfl).1; have x3 := (X0.out.2 3 _ rfl).1; have x4 := (X0.out.2 4 _ rfl).1; have x5 := (X0.out.2 5 _ rfl).1; have x6 := (X0.out.2 6 _ rfl).1
  go_enter Tryd.func46, Tryd.ntmps46
  go_wp2_with fail
  generalize ((w.alloc (.cells #[.slice (A) n c, .int .i64 (p), .slice (A') n' c', .int .i64 (q), .slice (A2) n2 c2, .slice (A3) n3 c3, .int .i64 (z)] 51)).alloc (.cells #[.slice none 0 0, .int .i64 0, .slice none 0 0, .int .i64 0, .slice none 0 0, .slice none 0 0, .int .i64 0] 51)) = w0 at *
  clear x0 x1 x2 x3 x4 x5 x6
  refine (canGoOn_any H10.out H20.out G0.out J0.out (by omega) (by omega) (by omega) (by omega) hc).mono ?_
  rintro e w1 ⟨rfl, hb1⟩
  have R1 := Lib.hid (R0.out.below hb1 (by omega))
  have s1 := hb1.size
  have E1 := Lib.hid (below_step hb1 E0.out (by omega))
  have X1 := Lib.hid (X0.out.below hb1 (by omega))
  have H11 := Lib.hid (H10.out.below hb1 (by omega))
  have H21 := Lib.hid (H20.out.below hb1 (by omega))
  have G1 := Lib.hid (G0.out.below hb1 (by omega))
  have J1 := Lib.hid (J0.out.below hb1 (by omega))
  clear hb1 H10 H20 G0 J0 X0 E0
  cases hg : goodB D p S q R Q z
  · have HO : Hid (cbOut D p S q R Q z N = (Bv.zero, 5)) := by show _ = _; simp [cbOut, hg]
    clear hg
    have r0 := (R1.out.2 0 _ rfl).1; have r1 := (R1.out.2 1 _ rfl).1; have r2 := (R1.out.2 2 _ rfl).1; have r3 := (R1.out.2 3 _ rfl).1; have r4 := (R1.out.2 4 _ rfl).1; have r5 := (R1.out.2 5 _ rfl).1; have r6 := (R1.out.2 6 _ rfl).1
    have g0 := (R1.out.2 0 _ rfl).2; have g1 := (R1.out.2 1 _ rfl).2; have g2 := (R1.out.2 2 _ rfl).2; have g3 := (R1.out.2 3 _ rfl).2; have g4 := (R1.out.2 4 _ rfl).2; have g5 := (R1.out.2 5 _ rfl).2; have g6 := (R1.out.2 6 _ rfl).2
    go_wp2
    refine bodyPost_ret (v := .tuple #[.agg #[.slice none 0 0, .int .i64 0, .slice none 0 0, .int .i64 0, .slice none 0 0, .slice none 0 0, .int .i64 0], .int .i64 5]) (by simp [results, Tryd.results46, go_sem, r0, g0, r1, g1, r2, g2, r3, g3, r4, g4, r5, g5, r6, g6]) rfl ?_
    rw [HO.out]
    refine PostBI.zero ?_
    (repeat (with_reducible refine below_set ?_ (by omega) _))
    exact E1.out
  · cases hN : inB N 0 60
    · have HO : Hid (cbOut D p S q R Q z N = (Bv.zero, 5)) := by show _ = _; simp [cbOut, hN]
      clear hg
      have r0 := (R1.out.2 0 _ rfl).1; have r1 := (R1.out.2 1 _ rfl).1; have r2 := (R1.out.2 2 _ rfl).1; have r3 := (R1.out.2 3 _ rfl).1; have r4 := (R1.out.2 4 _ rfl).1; have r5 := (R1.out.2 5 _ rfl).1; have r6 := (R1.out.2 6 _ rfl).1
      have g0 := (R1.out.2 0 _ rfl).2; have g1 := (R1.out.2 1 _ rfl).2; have g2 := (R1.out.2 2 _ rfl).2; have g3 := (R1.out.2 3 _ rfl).2; have g4 := (R1.out.2 4 _ rfl).2; have g5 := (R1.out.2 5 _ rfl).2; have g6 := (R1.out.2 6 _ rfl).2
      go_wp2_with (go_at_call 70; refine (isIn_any).mono ?_; rintro e w' ⟨rfl, rfl⟩)
      refine bodyPost_ret (v := .tuple #[.agg #[.slice none 0 0, .int .i64 0, .slice none 0 0, .int .i64 0, .slice none 0 0, .slice none 0 0, .int .i64 0], .int .i64 5]) (by simp [results, Tryd.results46, go_sem, r0, g0, r1, g1, r2, g2, r3, g3, r4, g4, r5, g5, r6, g6]) rfl ?_
      rw [HO.out]
      refine PostBI.zero ?_
      (repeat (with_reducible refine below_set ?_ (by omega) _))
      exact E1.out
    · have HO : Hid (cbOut D p S q R Q z N = if (fuGo S Q.length D p q.toNat Q).st = 0 then (⟨cutL (fuGo S Q.length D p q.toNat Q).d N.toNat, (fuGo S Q.length D p q.toNat Q).p - (R.length : Int), S, ((fuGo S Q.length D p q.toNat Q).q : Int), [], (fuGo S Q.length D p q.toNat Q).r, z⟩, 0) else (bvOf S R z (fuGo S Q.length D p q.toNat Q), (fuGo S Q.length D p q.toNat Q).st)) := by show _ = _; simp [cbOut, hg, hN]
      obtain ⟨hN0, hN1⟩ := inB_iff.1 hN
      obtain ⟨k, rfl⟩ := Int.eq_ofNat_of_zero_le hN0
      rw [Int.toNat_natCast] at HO
      obtain ⟨k1, k2, k3, k4, k5⟩ := goodB_start hg
      obtain ⟨q0, rfl⟩ := Int.eq_ofNat_of_zero_le k5
      rw [Int.toNat_natCast] at HO k2 k3
      have hl := validB_len k1
      obtain ⟨l1, l2, l3, l4, hp, _, hz⟩ := hl
      obtain ⟨i1, i2, i3, i4, i5⟩ := fuGo_valid Q.length D p q0 Q k2 k4 (by omega)
      have hn60 : n ≤ 60 := by rw [HL.out]; exact l1
      have hn12 : n' ≤ 12 := by rw [HL'.out]; exact l2
      have hn16 : n2 ≤ 16 := by rw [HG.out]; exact l3
      have hn16' : n3 ≤ 16 := by rw [HQ.out]; exact l4
      have HV := Lib.hid k2
      have HA := Lib.hid k4
      clear hg k1 k2 k4
      have x0 := (X1.out.2 0 _ rfl).1; have x1 := (X1.out.2 1 _ rfl).1; have x2 := (X1.out.2 2 _ rfl).1; have x3 := (X1.out.2 3 _ rfl).1; have x4 := (X1.out.2 4 _ rfl).1; have x5 := (X1.out.2 5 _ rfl).1; have x6 := (X1.out.2 6 _ rfl).1
      go_wp2_with (go_at_call 70; refine (isIn_any).mono ?_; rintro e w' ⟨rfl, rfl⟩)
      clear x0 x1 x2 x3 x4 x5 x6
      refine (fileOf_any H11.out H21.out G1.out J1.out (by omega) (by omega) (by omega) (by omega) (by omega) (by omega) (by omega) (by omega) (by unfold okInt; omega) (by unfold okInt; omega)).mono ?_
      rintro e w2 ⟨b, A4, n4, c4, A4', n4', c4', A5, n5, c5, A6, n6, c6, rfl, ⟨hc4, hc4', hc5, hc6⟩, hb2, hbl, hx, h1, h2, h3, h4, ha, ha1, ha2, ha3, ha4, ha5⟩
      have hbw := hx.lt
      have s2 := hb2.size
      have FA := Lib.hid (show FileAt w1.heap.size b A4 n4 c4 A4' n4' c4' D S z p q0 A5 n5 c5 R A6 n6 c6 Q w1.heap.size b w1.heap.size b w1.heap.size b w2 from ⟨hx, ⟨h1, h2, h3, h4⟩, ⟨.inr (Nat.le_refl _), .inr (Nat.le_refl _), .inr (Nat.le_refl _)⟩, ⟨hbl, Nat.le_refl _, Nat.le_refl _, Nat.le_refl _⟩, ⟨by omega, by omega, by omega, s2⟩, ⟨hc4, hc5, hc6⟩, ⟨ha, ha1, ha2, ha3, ha4, ha5⟩⟩)
      have R2 := Lib.hid (R1.out.below hb2 (by omega))
      have E2 := Lib.hid (below_step hb2 E1.out (by omega))
      have HE2 := Lib.hid (HE0.out.below E2.out hEw)
      clear hb2 hx h1 h2 h3 h4 ha ha1 ha2 ha3 ha4 ha5 R1 E1 H11 H21 G1 J1 X1
      have hflush := fflush_any FA.out HE2.out (by omega) HV.out (by omega) (by omega) HA.out
      generalize fuGo S Q.length D p q0 Q = T at *
      have HF := Lib.hid hflush
      have HI1 := Lib.hid i1
      have HI5 := Lib.hid i5
      clear hflush i1 i5
      go_wp2_with fail
      refine HF.out.mono ?_
      rintro e w3 ⟨A7, n7, c7, A8, n8, c8, M7, C7, rfl, ht, hf⟩
      have s3 := ht.size
      have FA3 := Lib.hid hf
      have R3 := Lib.hid (R2.out.turn ht (by omega) (by omega))
      have E3 : Hid (Below w.heap.size w w3) := E2.out.trans (ht.below (by omega) (by omega))
      clear ht hf R2 E2 FA HF HE2
      obtain ⟨b1, ⟨b2, b3, b4, b5⟩, ⟨b17, b18, b19⟩, ⟨b6, b7, b8, b9⟩, ⟨b10, b11, b12, b13⟩, ⟨b14, b15, b16⟩, hap⟩ := FA3.out
      have hbw3 := b1.lt
      by_cases hst : T.st = 0
      · have hn5 : n5 = R.length := b4.len
        have hn7 : n7 ≤ 1048576 := by have h1 := b2.len; have h2 := bytesB_le (validD_iff.1 HI1.out).1; omega
        rw [if_pos hst, ← hn5] at HO
        rw [show errV a0 a1 a2 T.st = .nilIface from by rw [hst]; rfl]
        have hpT := (validD_iff.1 HI1.out).2.2.2.1
        have HGB := Lib.hid (goBack_any b1 hpT (show n5 ≤ 60 by omega))
        have hn5le : n5 ≤ 60 := by omega
        have HX2 := Lib.hid b2
        have HX3 := Lib.hid b3
        have HX5 := Lib.hid b5
        have HAP := Lib.hid hap
        clear hst hn5 b1 b2 b3 b4 b5 hap
        go_wp2_with fail
        refine HGB.out.mono ?_
        rintro e w4 ⟨rfl, ht4, hx4⟩
        have s4 := ht4.size
        have D4 := Lib.hid (HX2.out.turn ht4 (by omega) b17)
        have S4 := Lib.hid (HX3.out.turn ht4 (by omega) (by omega))
        have O4 := Lib.hid (HX5.out.turn ht4 (by omega) b19)
        have R4 := Lib.hid (R3.out.turn ht4 (by omega) (by omega))
        have E4 : Hid (Below w.heap.size w w4) := E3.out.trans (ht4.below (by omega) (by omega))
        have HC := Lib.hid (cutW_any (more := [.slice none 0 0, .slice A8 n8 c8, .int .i64 z]) (m := k) hx4 D4.out (by omega) hn7 (by omega))
        clear ht4 hx4 HGB HX2 HX3 HX5 R3 E3 FA3
        go_wp2_with fail
        refine HC.out.mono ?_
        rintro e w5 ⟨A9, rfl, ht5, hi5, hx5⟩
        have s5 := ht5.size
        have X5 := Lib.hid hx5
        have H1 := Lib.hid hi5
        have H2 := Lib.hid (S4.out.turn ht5 (by omega) (by omega))
        have H3 := Lib.hid (Ints.nil w5 w1.heap.size b 0 none).1
        have H4 := Lib.hid (O4.out.turn ht5 (by omega) b19)
        have R5 := Lib.hid (R4.out.turn ht5 (by omega) (by omega))
        have E5 : Hid (Below w.heap.size w w5) := E4.out.trans (ht5.below (by omega) (by omega))
        have AP5 : Hid (Apart A9 k A4' n4' ∧ Apart none 0 A9 k ∧ Apart none 0 A4' n4' ∧ Apart A8 n8 A9 k ∧ Apart A8 n8 A4' n4' ∧ Apart A8 n8 none 0) := ⟨(Apart.of_le S4.out hi5 (by omega)).symm, Apart.zero.symm, Apart.zero.symm, Apart.of_le O4.out hi5 (by omega), HAP.out.2.2.2.2.1, Apart.zero⟩
        clear ht5 hi5 hx5 D4 S4 O4 R4 E4 HC HAP
        go_wp2_with fail
        refine (both_any X5.out).mono ?_
        rintro e w8 ⟨rfl, hb8⟩
        have s8 := hb8.size
        have K1 := Lib.hid (H1.out.below hb8 (by omega))
        have K2 := Lib.hid (H2.out.below hb8 (by omega))
        have K3 := Lib.hid (H3.out.below hb8 (by omega))
        have K4 := Lib.hid (H4.out.below hb8 (by omega))
        have R8 := Lib.hid (R5.out.below hb8 (by omega))
        have E8 := Lib.hid (below_step hb8 E5.out (by omega))
        have HE8 := Lib.hid (HE0.out.below E8.out hEw)
        clear hb8 R5 E5
        go_wp2_with fail
        refine (endOf_any HE8.out (st := 0) (.inl rfl)).mono ?_
        rintro e w9 ⟨rfl, rfl⟩
        have r0 := (R8.out.2 0 _ rfl).1; have r1 := (R8.out.2 1 _ rfl).1; have r2 := (R8.out.2 2 _ rfl).1; have r3 := (R8.out.2 3 _ rfl).1; have r4 := (R8.out.2 4 _ rfl).1; have r5 := (R8.out.2 5 _ rfl).1; have r6 := (R8.out.2 6 _ rfl).1
        have g0 := (R8.out.2 0 _ rfl).2; have g1 := (R8.out.2 1 _ rfl).2; have g2 := (R8.out.2 2 _ rfl).2; have g3 := (R8.out.2 3 _ rfl).2; have g4 := (R8.out.2 4 _ rfl).2; have g5 := (R8.out.2 5 _ rfl).2; have g6 := (R8.out.2 6 _ rfl).2
        go_wp2
        refine bodyPost_ret (v := .tuple #[.agg #[.slice (A9) k k, .int .i64 (T.p - (n5 : Int)), .slice (A4') n4' c4', .int .i64 ((T.q : Int)), .slice (none) 0 0, .slice (A8) n8 c8, .int .i64 (z)], .int .i64 0]) (by simp [results, Tryd.results46, go_sem, r0, g0, r1, g1, r2, g2, r3, g3, r4, g4, r5, g5, r6, g6]) rfl ?_
        rw [HO.out]
        obtain ⟨_, _, _, hp9, hq9⟩ := validD_iff.1 HI1.out
        refine ⟨_, _, _, _, _, _, _, _, _, _, _, _, rfl, ⟨Nat.le_refl _, hc4', Nat.le_refl _, b16⟩, ?_, ⟨⟨⟨?_, ?_, AP5.out.1, by unfold okInt; show _ ≤ T.p - (n5 : Int) ∧ T.p - (n5 : Int) ≤ _; omega, by unfold okInt; show _ ≤ (T.q : Int) ∧ (T.q : Int) ≤ _; omega⟩, ?_, AP5.out.2.1, AP5.out.2.2.1, by unfold okInt; show _ ≤ z ∧ z ≤ _; omega⟩, ?_, AP5.out.2.2.2.1, AP5.out.2.2.2.2.1, AP5.out.2.2.2.2.2⟩⟩
        · (repeat (with_reducible refine below_set ?_ (by omega) _))
          exact E8.out
        · simp only [World.size_setCell]
          refine Ints.more (lo := w4.heap.size) (hi := w5.heap.size) ?_ (by omega) (by omega)
          (repeat (with_reducible refine Ints.set_ ?_ (by omega) _))
          exact K1.out
        · simp only [World.size_setCell]
          refine Ints.more (lo := w1.heap.size) (hi := b) ?_ (by omega) (by omega)
          (repeat (with_reducible refine Ints.set_ ?_ (by omega) _))
          exact K2.out
        · simp only [World.size_setCell]
          refine Ints.more (lo := w1.heap.size) (hi := b) ?_ (by omega) (by omega)
          (repeat (with_reducible refine Ints.set_ ?_ (by omega) _))
          exact K3.out
        · simp only [World.size_setCell]
          refine Ints.more (lo := w1.heap.size) (hi := b) ?_ (by omega) (by omega)
          (repeat (with_reducible refine Ints.set_ ?_ (by omega) _))
          exact K4.out
      · obtain ⟨ae, hae⟩ : ∃ ae, errV a0 a1 a2 T.st = errAt ae := by
          rcases HI5.out with h | h | h | h
          · exact absurd h hst
          · exact ⟨a0, by rw [h]; rfl⟩
          · exact ⟨a1, by rw [h]; rfl⟩
          · exact ⟨a2, by rw [h]; rfl⟩
        rw [if_neg hst] at HO
        rw [hae]
        have HAE := Lib.hid hae
        have HEND : Hid (∀ wx : World, Errs wx E a0 a1 a2 → Calls Tryd.prog 57 #[errAt ae] wx fun e w' => e = .returned (.int .i64 T.st) ∧ wx = w') := fun wx h => by
          have h2 := endOf_any h HI5.out
          rw [HAE.out] at h2
          exact h2
        have X3 := Lib.hid b1
        have H1 := Lib.hid b2
        have H2 := Lib.hid b3
        have H3 := Lib.hid b4
        have H4 := Lib.hid b5
        have HAP := Lib.hid hap
        clear hst hae b1 b2 b3 b4 b5 hap FA3
        go_wp2_with fail
        refine (both_any X3.out).mono ?_
        rintro e w8 ⟨rfl, hb8⟩
        have s8 := hb8.size
        have K1 := Lib.hid (H1.out.below hb8 (by omega))
        have K2 := Lib.hid (H2.out.below hb8 (by omega))
        have K3 := Lib.hid (H3.out.below hb8 (by omega))
        have K4 := Lib.hid (H4.out.below hb8 (by omega))
        have R8 := Lib.hid (R3.out.below hb8 (by omega))
        have E8 := Lib.hid (below_step hb8 E3.out (by omega))
        have HE8 := Lib.hid (HE0.out.below E8.out hEw)
        clear hb8 R3 E3
        go_wp2_with fail
        refine (HEND.out _ HE8.out).mono ?_
        rintro e w9 ⟨rfl, rfl⟩
        have r0 := (R8.out.2 0 _ rfl).1; have r1 := (R8.out.2 1 _ rfl).1; have r2 := (R8.out.2 2 _ rfl).1; have r3 := (R8.out.2 3 _ rfl).1; have r4 := (R8.out.2 4 _ rfl).1; have r5 := (R8.out.2 5 _ rfl).1; have r6 := (R8.out.2 6 _ rfl).1
        have g0 := (R8.out.2 0 _ rfl).2; have g1 := (R8.out.2 1 _ rfl).2; have g2 := (R8.out.2 2 _ rfl).2; have g3 := (R8.out.2 3 _ rfl).2; have g4 := (R8.out.2 4 _ rfl).2; have g5 := (R8.out.2 5 _ rfl).2; have g6 := (R8.out.2 6 _ rfl).2
        go_wp2
        refine bodyPost_ret (v := .tuple #[.agg #[.slice (A7) n7 c7, .int .i64 (T.p), .slice (A4') n4' c4', .int .i64 ((T.q : Int)), .slice (A5) n5 c5, .slice (A8) n8 c8, .int .i64 (z)], .int .i64 T.st]) (by simp [results, Tryd.results46, go_sem, r0, g0, r1, g1, r2, g2, r3, g3, r4, g4, r5, g5, r6, g6]) rfl ?_
        rw [HO.out]
        obtain ⟨_, _, _, hp9, hq9⟩ := validD_iff.1 HI1.out
        refine ⟨_, _, _, _, _, _, _, _, _, _, _, _, rfl, ⟨b14, hc4', b15, b16⟩, ?_, ⟨⟨⟨?_, ?_, HAP.out.1, by unfold okInt; show _ ≤ T.p ∧ T.p ≤ _; omega, by unfold okInt; show _ ≤ (T.q : Int) ∧ (T.q : Int) ≤ _; omega⟩, ?_, HAP.out.2.1, HAP.out.2.2.1, by unfold okInt; show _ ≤ z ∧ z ≤ _; omega⟩, ?_, HAP.out.2.2.2.1, HAP.out.2.2.2.2.1, HAP.out.2.2.2.2.2⟩⟩
        · (repeat (with_reducible refine below_set ?_ (by omega) _))
          exact E8.out
        · simp only [World.size_setCell]
          refine Ints.more (lo := M7) (hi := C7) ?_ (by omega) (by omega)
          (repeat (with_reducible refine Ints.set_ ?_ (by omega) _))
          exact K1.out
        · simp only [World.size_setCell]
          refine Ints.more (lo := w1.heap.size) (hi := b) ?_ (by omega) (by omega)
          (repeat (with_reducible refine Ints.set_ ?_ (by omega) _))
          exact K2.out
        · simp only [World.size_setCell]
          refine Ints.more (lo := w1.heap.size) (hi := b) ?_ (by omega) (by omega)
          (repeat (with_reducible refine Ints.set_ ?_ (by omega) _))
          exact K3.out
        · simp only [World.size_setCell]
          refine Ints.more (lo := w1.heap.size) (hi := b) ?_ (by omega) (by omega)
          (repeat (with_reducible refine Ints.set_ ?_ (by omega) _))
          exact K4.out
end Go.Proofs.YtphkkalkajleiaaDoor
