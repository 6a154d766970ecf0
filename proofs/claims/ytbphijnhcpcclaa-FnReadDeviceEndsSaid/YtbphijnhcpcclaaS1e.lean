/- Contract of the model's ReadDevice, whole. -/
import Derived.Test.YtbphijnhcpcclaaS1d
namespace Go.Proofs.Ytbphijnhcpcclaa
open Go.ChangeShapes Go.WideShapes Go.ChangeAt Go.RowKit
set_option linter.unusedSimpArgs false
set_option linter.unusedVariables false

set_option maxHeartbeats 2000000 in
theorem SReadDevice_any {A A' : Option Addr} {n c n' c' : Nat} {D S : List Int} {p q N : Int} {w : World} {L L' B B' : Nat} (h : Ints w L B A n D) (h' : Ints w L' B' A' n' S) (hB : B ≤ w.heap.size) (hB' : B' ≤ w.heap.size) :
    Calls Try.prog 18 #[.agg #[.slice (A) n c, .int .i64 (p), .slice (A') n' c', .int .i64 (q)], .int .i64 N] w (Post3 (rdOut D p S q N) w) := by
  have HL := Lib.hid h.len
  have HL' := Lib.hid h'.len
  have H1 := Lib.hid (fun o => (h.alloc hB (.cells #[.slice (A) n c, .int .i64 (p), .slice (A') n' c', .int .i64 (q)] 27)).alloc (by first | omega | (simp; omega) | (simp; done)) o)
  have H2 := Lib.hid (fun o => (h'.alloc hB' (.cells #[.slice (A) n c, .int .i64 (p), .slice (A') n' c', .int .i64 (q)] 27)).alloc (by first | omega | (simp; omega) | (simp; done)) o)
  have X0 := Lib.hid ((Box.new w 27 [.slice (A) n c, .int .i64 (p), .slice (A') n' c', .int .i64 (q)]).alloc (.cells #[.slice none 0 0, .int .i64 0, .slice none 0 0, .int .i64 0] 27))
  have R0 := Lib.hid (Box.new (w.alloc (.cells #[.slice (A) n c, .int .i64 (p), .slice (A') n' c', .int .i64 (q)] 27)) 27 [.slice none 0 0, .int .i64 0, .slice none 0 0, .int .i64 0])
  (try simp only [World.size_alloc, World.size_setCell, World.size_drew] at R0)
  cases hg : rdGood D p S q N
  · have HO : Hid (rdOut D p S q N = (.zero, [], 5)) := by show _ = _; simp [rdOut, hg]
    rw [HO.out]
    have HG := Lib.hid hg
    clear hg
    go_enter Try.func18, Try.ntmps18
    go_wp2_with fail
    refine (sGoodCall_any (H1.out _) (H2.out _) (by first | omega | (simp; omega) | (simp; done)) (by first | omega | (simp; omega) | (simp; done))).mono ?_
    rintro e w1 ⟨rfl, hb1⟩
    (try simp only [World.size_alloc, World.size_setCell, World.size_drew] at hb1)
    have HB1 := Lib.hid hb1
    clear hb1
    have X1 := Lib.hid (X0.out.below HB1.out (by omega))
    have R1 := Lib.hid (R0.out.below HB1.out (by omega))
    have x0 := (R1.out.2 0 _ rfl).1; have x1 := (R1.out.2 1 _ rfl).1; have x2 := (R1.out.2 2 _ rfl).1; have x3 := (R1.out.2 3 _ rfl).1
    have f0 := (R1.out.2 0 _ rfl).2; have f1 := (R1.out.2 1 _ rfl).2; have f2 := (R1.out.2 2 _ rfl).2; have f3 := (R1.out.2 3 _ rfl).2
    cases hc : goodCall D p S q
    · go_wp2
      refine bodyPost_ret (v := .tuple #[.agg #[.slice none 0 0, .int .i64 0, .slice none 0 0, .int .i64 0], .slice none 0 0, .int .i64 5]) (by simp [results, Try.results18, go_sem, x0, x1, x2, x3, f0, f1, f2, f3]) rfl (Post3.zero ?_)
      (repeat (with_reducible refine below_set ?_ (by omega) _))
      exact below_step HB1.out (by go_grown) (by first | omega | (simp; omega) | (simp; done))
    · have hn : inB N 1 60 = false := by have := HG.out; simpa [rdGood, hc] using this
      go_wp2_with (go_at_call 53; refine (inRange_any).mono ?_; rintro e w' ⟨rfl, rfl⟩)
      refine bodyPost_ret (v := .tuple #[.agg #[.slice none 0 0, .int .i64 0, .slice none 0 0, .int .i64 0], .slice none 0 0, .int .i64 5]) (by simp [results, Try.results18, go_sem, x0, x1, x2, x3, f0, f1, f2, f3]) rfl (Post3.zero ?_)
      (repeat (with_reducible refine below_set ?_ (by omega) _))
      exact below_step HB1.out (by go_grown) (by first | omega | (simp; omega) | (simp; done))
  · obtain ⟨hv, hq1, hN1, hN2⟩ := rdGood_iff.1 hg
    obtain ⟨hbD, hS12, hSall, ⟨hp0, hp1⟩, hq0, _⟩ := validD_iff.1 hv
    have hn60 : n ≤ 60 := by rw [HL.out]; exact bytesB_le hbD
    have hn12 : n' ≤ 12 := by rw [HL'.out]; exact hS12
    obtain ⟨a, rfl⟩ := Int.eq_ofNat_of_zero_le hq0
    have HO : Hid (rdOut D p S a N = (⟨D, p + ((rdL D p (mayAt S a) N).length : Int), S, (a : Int) + 1⟩, rdL D p (mayAt S a) N, rdSt D p (mayAt S a))) := by show _ = _; simp [rdOut, hg]
    rw [HO.out]
    have hgc : goodCall D p S a = true := by simp [goodCall, hv]; omega
    have hn : inB N 1 60 = true := inB_true hN1 hN2
    have HV := Lib.hid hv
    have HBD := Lib.hid hbD
    clear hg hv hbD hS12 hSall
    go_enter Try.func18, Try.ntmps18
    go_wp2_with fail
    refine (sGoodCall_any (H1.out _) (H2.out _) (by first | omega | (simp; omega) | (simp; done)) (by first | omega | (simp; omega) | (simp; done))).mono ?_
    rintro e w1 ⟨rfl, hb1⟩
    (try simp only [World.size_alloc, World.size_setCell, World.size_drew] at hb1)
    have HB1 := Lib.hid hb1
    clear hb1
    have s1 := HB1.out.size
    (try simp only [World.size_alloc, World.size_setCell, World.size_drew] at s1)
    have X1 := Lib.hid (X0.out.below HB1.out (by omega))
    have R1 := Lib.hid (R0.out.below HB1.out (by omega))
    have I1 := Lib.hid ((H1.out _).below HB1.out (by omega))
    have I2 := Lib.hid ((H2.out _).below HB1.out (by omega))
    have x0 := (X1.out.2 0 _ rfl).1; have x1 := (X1.out.2 1 _ rfl).1; have x2 := (X1.out.2 2 _ rfl).1; have x3 := (X1.out.2 3 _ rfl).1
    go_wp2_with (first | (go_at_call 53; refine (inRange_any).mono ?_; rintro e w' ⟨rfl, rfl⟩) | fail)
    clear x0 x1 x2 x3
    refine (sCopyDevice_any I1.out I2.out (by omega) (by omega) (by omega) (by omega) (by unfold okInt; omega) (by unfold okInt; omega)).mono ?_
    rintro e w2 ⟨A2, n2, c2, A2', n2', c2', rfl, ⟨hc2, hc2'⟩, hb2, hd2, hd2', hap, _, _⟩
    have HB2 := Lib.hid hb2
    have HD2 := Lib.hid hd2
    have HD2' := Lib.hid hd2'
    have HAP := Lib.hid hap
    clear hb2 hd2 hd2' hap
    have s2 := HB2.out.size
    go_wp2_with fail
    refine (sReadDevice0_any HD2.out HD2'.out (by omega) (by omega) hc2 HV.out (by omega) hN1 hN2).mono ?_
    rintro e w3 ⟨A3, n3, c3, rfl, hc3, hb3, hi3⟩
    have HB3 := Lib.hid hb3
    have HI3 := Lib.hid hi3
    clear hb3 hi3
    have s3 := HB3.out.size
    have D3 := Lib.hid (HD2.out.below HB3.out (by omega))
    have D3' := Lib.hid (HD2'.out.below HB3.out (by omega))
    have R3 := Lib.hid ((R1.out.below HB2.out (by omega)).below HB3.out (by omega))
    clear R1
    have x0 := (R3.out.2 0 _ rfl).1; have x1 := (R3.out.2 1 _ rfl).1; have x2 := (R3.out.2 2 _ rfl).1; have x3 := (R3.out.2 3 _ rfl).1
    have f0 := (R3.out.2 0 _ rfl).2; have f1 := (R3.out.2 1 _ rfl).2; have f2 := (R3.out.2 2 _ rfl).2; have f3 := (R3.out.2 3 _ rfl).2
    go_wp2
    refine bodyPost_ret (v := .tuple #[.agg #[.slice (A2) n2 c2, .int .i64 (p + ((rdL D p (mayAt S a) N).length : Int)), .slice (A2') n2' c2', .int .i64 ((a : Int) + 1)], .slice A3 n3 c3, .int .i64 (rdSt D p (mayAt S a))]) (by simp [results, Try.results18, go_sem, x0, x1, x2, x3, f0, f1, f2, f3]) rfl ?_
    refine ⟨_, _, _, _, _, _, _, _, _, rfl, ⟨hc2, hc2', hc3⟩, ?_, ⟨?_, ?_, HAP.out, ?_, ?_⟩, ?_, ?_, ?_, ?_⟩
    · (repeat (with_reducible refine below_set ?_ (by omega) _))
      have e1 : Below w.heap.size w w1 := below_step HB1.out (by go_grown) (by first | omega | (simp; omega) | (simp; done))
      exact below_step HB3.out (below_step HB2.out e1 (by omega)) (by omega)
    · simp only [World.size_setCell]
      refine Ints.more (lo := w1.heap.size) (hi := w2.heap.size) ?_ (by omega) (by omega)
      (repeat (with_reducible refine Ints.set_ ?_ (by omega) _))
      exact D3.out
    · simp only [World.size_setCell]
      refine Ints.more (lo := w1.heap.size) (hi := w2.heap.size) ?_ (by omega) (by omega)
      (repeat (with_reducible refine Ints.set_ ?_ (by omega) _))
      exact D3'.out
    · have := rdL_len D p (mayAt S a) N
      have hb := bytesB_le HBD.out
      unfold okInt
      show _ ≤ p + ((rdL D p (mayAt S a) N).length : Int) ∧ p + ((rdL D p (mayAt S a) N).length : Int) ≤ _
      omega
    · unfold okInt
      show _ ≤ (a : Int) + 1 ∧ (a : Int) + 1 ≤ _
      omega
    · simp only [World.size_setCell]
      refine Ints.more (lo := w2.heap.size) (hi := w3.heap.size) ?_ (by omega) (by omega)
      (repeat (with_reducible refine Ints.set_ ?_ (by omega) _))
      exact HI3.out
    · exact (Apart.of_le D3.out HI3.out (by omega)).symm
    · exact (Apart.of_le D3'.out HI3.out (by omega)).symm
    · unfold okInt
      show _ ≤ rdSt D p (mayAt S a) ∧ rdSt D p (mayAt S a) ≤ _
      unfold rdSt
      repeat' split
      all_goals omega

theorem rdOut_le (D : List Int) (p : Int) (S : List Int) (q N : Int) : (rdOut D p S q N).1.d.length ≤ 60 ∧ (rdOut D p S q N).1.s.length ≤ 60 ∧ (rdOut D p S q N).2.1.length ≤ 60 := by
  unfold rdOut
  split
  · obtain ⟨hv, _⟩ := rdGood_iff.1 ‹_›
    obtain ⟨hb, hs, _⟩ := validD_iff.1 hv
    have h1 := bytesB_le hb
    have h2 := rdL_len D p (mayAt S q.toNat) N
    exact ⟨h1, by show S.length ≤ 60; omega, by show (rdL D p (mayAt S q.toNat) N).length ≤ 60; omega⟩
  · exact ⟨by decide, by decide, by decide⟩
theorem SReadDevice_x {A A' : Option Addr} {n c n' c' : Nat} {D S : List Int} {p q N : Int} {w : World} {L L' B B' : Nat} (h : Ints w L B A n D) (h' : Ints w L' B' A' n' S) (hB : B ≤ w.heap.size) (hB' : B' ≤ w.heap.size) (_hc : n ≤ c) (_hc' : n' ≤ c') (_hn : n ≤ 1048576) (_hn' : n' ≤ 1048576) (_hN : okInt N) :
    Calls Try.prog 18 #[.agg #[.slice (A) n c, .int .i64 (p), .slice (A') n' c', .int .i64 (q)], .int .i64 N] w (Post3 (rdOut D p S q N) w) := SReadDevice_any h h' hB hB'
theorem ReadDevice_x {A A' : Option Addr} {n c n' c' : Nat} {D S : List Int} {p q N : Int} {w : World} {L L' B B' : Nat} (h : Ints w L B A n D) (h' : Ints w L' B' A' n' S) (hB : B ≤ w.heap.size) (hB' : B' ≤ w.heap.size) (_hc : n ≤ c) (_hc' : n' ≤ c') (_hn : n ≤ 1048576) (_hn' : n' ≤ 1048576) (_hN : okInt N) :
    Calls Try.prog 17 #[.agg #[.slice (A) n c, .int .i64 (p), .slice (A') n' c', .int .i64 (q)], .int .i64 N] w (Post3 (rdOut D p S q N) w) := ReadDevice_any h h' hB hB'
end Go.Proofs.Ytbphijnhcpcclaa
