/- Contract of the model's CallsToEnd; both in the laws' form. -/
import Derived.Test.YtbphijnhcpcclaaC1j
namespace Go.Proofs.Ytbphijnhcpcclaa
open Go.ChangeShapes Go.WideShapes Go.ChangeAt Go.RowKit
set_option linter.unusedSimpArgs false
set_option linter.unusedVariables false

set_option maxRecDepth 100000 in
set_option maxHeartbeats 4000000 in
theorem SCallsToEnd_any {A A' : Option Addr} {n c n' c' : Nat} {D S : List Int} {p q N : Int} {w : World} {L L' B B' : Nat} (h : Ints w L B A n D) (h' : Ints w L' B' A' n' S) (hB : B ≤ w.heap.size) (hB' : B' ≤ w.heap.size) :
    Calls Try.prog 28 #[.agg #[.slice (A) n c, .int .i64 (p), .slice (A') n' c', .int .i64 (q)], .int .i64 N] w (IntB (ctOut D p S q N) w) := by
  have HL := Lib.hid h.len
  have HL' := Lib.hid h'.len
  have H1 := Lib.hid (h.alloc hB (.cells #[.slice (A) n c, .int .i64 (p), .slice (A') n' c', .int .i64 (q)] 27))
  have H2 := Lib.hid (h'.alloc hB' (.cells #[.slice (A) n c, .int .i64 (p), .slice (A') n' c', .int .i64 (q)] 27))
  have X0 := Lib.hid (Box.new w 27 [.slice (A) n c, .int .i64 (p), .slice (A') n' c', .int .i64 (q)])
  by_cases hg : (validD D p S q && inB N 1 60) = true
  · obtain ⟨hv, hn⟩ := Bool.and_eq_true_iff.1 hg
    obtain ⟨hN1, hN2⟩ := inB_iff.1 hn
    obtain ⟨hbD, hS12, hSall, ⟨hp0, hp1⟩, hq0, hq1⟩ := validD_iff.1 hv
    have hn60 : n ≤ 60 := by rw [HL.out]; exact bytesB_le hbD
    have hn12 : n' ≤ 12 := by rw [HL'.out]; exact hS12
    obtain ⟨a, rfl⟩ := Int.eq_ofNat_of_zero_le hq0
    obtain ⟨R, hR⟩ : ∃ R, ctGo D S N (1000 - a) p a 1 = R := ⟨_, rfl⟩
    have HO : Hid (ctOut D p S a N = R) := by show _ = _; rw [ctOut, if_pos hg, ← hR]; simp
    have HR := Lib.hid hR
    have HV := Lib.hid hv
    clear hg hv hbD hS12 hSall hR
    rw [HO.out]
    go_enter Try.func28, Try.ntmps28
    go_wp2_with fail
    refine (validDevice_any H1.out H2.out (by first | omega | (simp; omega) | (simp; done)) (by first | omega | (simp; omega) | (simp; done))).mono ?_
    rintro e w1 ⟨rfl, hb1⟩
    rw [HV.out]
    (try simp only [World.size_alloc, World.size_setCell, World.size_drew] at hb1)
    have HB1 := Lib.hid hb1
    clear hb1
    have s1 := HB1.out.size
    (try simp only [World.size_alloc, World.size_setCell, World.size_drew] at s1)
    have X1 := Lib.hid (X0.out.below HB1.out (by omega))
    have I1 := Lib.hid (H1.out.below HB1.out (by omega))
    have I2 := Lib.hid (H2.out.below HB1.out (by omega))
    have x0 := (X1.out.2 0 _ rfl).1; have x1 := (X1.out.2 1 _ rfl).1; have x2 := (X1.out.2 2 _ rfl).1; have x3 := (X1.out.2 3 _ rfl).1
    go_wp2_with (first | (go_at_call 53; refine (inRange_any).mono ?_; rintro e w' ⟨rfl, rfl⟩) | fail)
    clear x0 x1 x2 x3
    refine (sCopyDevice_any I1.out I2.out (by omega) (by omega) (by omega) (by omega) (by unfold okInt; omega) (by unfold okInt; omega)).mono ?_
    rintro e w2 ⟨A2, n2, c2, A2', n2', c2', rfl, ⟨hc2, hc2'⟩, hb2, hd2, hd2', hap, _, _⟩
    have s2 := hb2.size
    have HD2 := Lib.hid (hd2.alloc (Nat.le_refl _) (.cells #[.slice (A2) n2 c2, .int .i64 (p), .slice (A2') n2' c2', .int .i64 ((a : Int))] 27))
    have HD2' := Lib.hid (hd2'.alloc (Nat.le_refl _) (.cells #[.slice (A2) n2 c2, .int .i64 (p), .slice (A2') n2' c2', .int .i64 ((a : Int))] 27))
    have Y2 := Lib.hid (Box.new w2 27 [.slice (A2) n2 c2, .int .i64 (p), .slice (A2') n2' c2', .int .i64 ((a : Int))])
    have E2 := Lib.hid ((below_step hb2 (below_step HB1.out (by go_grown) (by first | omega | (simp; omega) | (simp; done)) : Below w.heap.size w w1) (by omega)).alloc (by omega) (.cells #[.slice (A2) n2 c2, .int .i64 (p), .slice (A2') n2' c2', .int .i64 ((a : Int))] 27))
    clear hb2 hd2 hd2' hap X1 I1 I2 H1 H2 X0
    go_wp2
    go_loopw [6] (fun i wr => ∃ (j s : Nat) (p' : Int), Hid (s = a + j) ∧ s ≤ 1000 ∧ i = .int .i64 ((j : Int) + 1) ∧ Hid (Box wr w2.heap.size [.slice (A2) n2 c2, .int .i64 (p'), .slice (A2') n2' c2', .int .i64 ((s : Int))]) ∧ Hid (Ints wr w1.heap.size w2.heap.size A2 n2 D) ∧ Hid (Ints wr w1.heap.size w2.heap.size A2' n2' S) ∧ Hid (validD D p' S (s : Int) = true) ∧ Hid (Below w.heap.size w wr) ∧ Hid (ctGo D S N (1000 - s) p' s ((j : Int) + 1) = R)) (fun i _ => 1002 - (intOf i).toNat)
    case atStart => exact ⟨0, a, p, (by show _ = _; omega), by omega, by simp, Y2, HD2, HD2', HV, E2, HR⟩
    case round =>
      obtain ⟨j, s, p', hs, hsle, rfl, hX, hD, hS, hV, hE, hR⟩ := hrel
      have hxl := hX.out.lt
      have hj : j ≤ 1000 := by have := hs.out; omega
      have x0 := (hX.out.2 0 _ rfl).1; have x1 := (hX.out.2 1 _ rfl).1; have x2 := (hX.out.2 2 _ rfl).1; have x3 := (hX.out.2 3 _ rfl).1
      by_cases hlt : s < 1000
      · have hrec : ctGo D S N (1000 - s) p' s ((j : Int) + 1) = if rdSt D p' (mayAt S s) = 1 then (j : Int) + 1 else ctGo D S N (1000 - (s + 1)) (p' + ((rdL D p' (mayAt S s) N).length : Int)) (s + 1) ((j : Int) + 1 + 1) := by
          rw [show 1000 - s = (1000 - (s + 1)) + 1 from by omega, ctGo]
        rw [hR.out] at hrec
        have HREC := Lib.hid hrec
        clear hrec
        go_wp2_with fail
        clear x0 x1 x2 x3
        refine (sReadDevice0_any hD.out hS.out (by omega) (by omega) hc2 hV.out hlt hN1 hN2).mono ?_
        rintro e w3 ⟨A3, n3, c3, rfl, _, hb3, _⟩
        have s3 := hb3.size
        have X3 := Lib.hid (hX.out.below hb3 hxl)
        have D3 := Lib.hid (hD.out.below hb3 (by omega))
        have S3 := Lib.hid (hS.out.below hb3 (by omega))
        have E3 := Lib.hid (below_step hb3 hE.out hE.out.size)
        have HV1 := Lib.hid (validD_next (k := mayAt S s) hV.out hlt hN1)
        clear hb3
        have g3 := X3.out.lt
        by_cases hend : rdSt D p' (mayAt S s) = 1
        · have HE := Lib.hid hend
          rw [HE.out]
          clear hend
          go_wp2
          go_ret
          exact ⟨ret_int (by rw [HREC.out, if_pos HE.out]), E3.out.alloc (by have := E3.out.size; omega) _⟩
        · have HE := Lib.hid hend
          have hne : (rdSt D p' (mayAt S s) == 1) = false := by simpa using hend
          clear hend
          have x0 := (X3.out.2 0 _ rfl).1; have x1 := (X3.out.2 1 _ rfl).1; have x2 := (X3.out.2 2 _ rfl).1; have x3 := (X3.out.2 3 _ rfl).1
          have f0 := (X3.out.2 0 _ rfl).2; have f1 := (X3.out.2 1 _ rfl).2; have f2 := (X3.out.2 2 _ rfl).2; have f3 := (X3.out.2 3 _ rfl).2
          go_wp2
          go_roundw
          case rel =>
            refine ⟨j + 1, s + 1, _, (by have := hs.out; show _ = _; omega), by omega, by go_num, ((((X3.out.put (i := 0) (by simp) _).put (i := 1) (by simp) _).put (i := 2) (by simp) _).put (i := 3) (by simp) _).alloc _, ?_, ?_, HV1, ?_, ?_⟩
            · refine Ints.alloc ?_ (by simp; omega) _
              (repeat (with_reducible refine Ints.set_ ?_ (by omega) _))
              exact D3.out
            · refine Ints.alloc ?_ (by simp; omega) _
              (repeat (with_reducible refine Ints.set_ ?_ (by omega) _))
              exact S3.out
            · refine Below.alloc ?_ (by have := E3.out.size; simp; omega) _
              (repeat (with_reducible refine below_set ?_ (by omega) _))
              exact E3.out
            · have hh := HREC.out
              rw [if_neg HE.out] at hh
              have e1 : ((j + 1 : Nat) : Int) = (j : Int) + 1 := by omega
              show ctGo _ _ _ _ _ _ _ = R
              rw [e1]
              exact hh.symm
          case measure => simp [intOf]; omega
      · go_wp2
        go_ret
        have hs1 : s = 1000 := by omega
        have hh := hR.out
        rw [hs1, Nat.sub_self, ctGo] at hh
        exact ⟨ret_int hh, hE.out⟩
  · have HO : Hid (ctOut D p S q N = -1) := by show _ = _; rw [ctOut, if_neg hg]
    cases h1 : validD D p S q
    · have HV := Lib.hid h1
      clear h1 hg
      go_enter Try.func28, Try.ntmps28
      go_wp2_with fail
      refine (validDevice_any H1.out H2.out (by first | omega | (simp; omega) | (simp; done)) (by first | omega | (simp; omega) | (simp; done))).mono ?_
      rintro e w1 ⟨rfl, hb1⟩
      rw [HV.out]
      have HB1 := Lib.hid hb1
      clear hb1
      go_wp2
      go_ret
      exact ⟨ret_int HO.out.symm, below_step HB1.out (by go_grown) (by first | omega | (simp; omega) | (simp; done))⟩
    · have h2 : inB N 1 60 = false := by rw [h1] at hg; simpa using hg
      have HV := Lib.hid h1
      clear h1 hg
      go_enter Try.func28, Try.ntmps28
      go_wp2_with fail
      refine (validDevice_any H1.out H2.out (by first | omega | (simp; omega) | (simp; done)) (by first | omega | (simp; omega) | (simp; done))).mono ?_
      rintro e w1 ⟨rfl, hb1⟩
      rw [HV.out]
      have HB1 := Lib.hid hb1
      clear hb1
      go_wp2_with (go_at_call 53; refine (inRange_any).mono ?_; rintro e w' ⟨rfl, rfl⟩)
      go_ret
      exact ⟨ret_int HO.out.symm, below_step HB1.out (by go_grown) (by first | omega | (simp; omega) | (simp; done))⟩

theorem SCallsToEnd_x {A A' : Option Addr} {n c n' c' : Nat} {D S : List Int} {p q N : Int} {w : World} {L L' B B' : Nat} (h : Ints w L B A n D) (h' : Ints w L' B' A' n' S) (hB : B ≤ w.heap.size) (hB' : B' ≤ w.heap.size) (_h1 : okInt N) :
    Calls Try.prog 28 #[.agg #[.slice (A) n c, .int .i64 (p), .slice (A') n' c', .int .i64 (q)], .int .i64 N] w (IntB (ctOut D p S q N) w) := SCallsToEnd_any h h' hB hB'
theorem CallsToEnd_x {A A' : Option Addr} {n c n' c' : Nat} {D S : List Int} {p q N : Int} {w : World} {L L' B B' : Nat} (h : Ints w L B A n D) (h' : Ints w L' B' A' n' S) (hB : B ≤ w.heap.size) (hB' : B' ≤ w.heap.size) (_h1 : okInt N) :
    Calls Try.prog 27 #[.agg #[.slice (A) n c, .int .i64 (p), .slice (A') n' c', .int .i64 (q)], .int .i64 N] w (IntB (ctOut D p S q N) w) := CallsToEnd_any h h' hB hB'
end Go.Proofs.Ytbphijnhcpcclaa
