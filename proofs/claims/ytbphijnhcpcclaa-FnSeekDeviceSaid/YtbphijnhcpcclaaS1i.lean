/- Contracts of the model's CutDevice. -/
import Derived.Test.YtbphijnhcpcclaaC1i
namespace Go.Proofs.Ytbphijnhcpcclaa
open Go.ChangeShapes Go.WideShapes Go.ChangeAt Go.RowKit
set_option linter.unusedSimpArgs false
set_option linter.unusedVariables false

def lenX : Value → Nat | .slice _ n _ => n | _ => 0
theorem one_zero (w : World) : Ints (w.alloc (.cells #[.int .i64 0] 3)) w.heap.size (w.heap.size + 1) (some ⟨w.heap.size, 0, none⟩) 1 [0] :=
  Ints.of_cells (xs := [0]) (Go.Deep.blk_alloc_new _ _) (by simp) (by intro x hx; simp at hx; subst hx; unfold okInt; omega) (Nat.le_refl _) (by omega)

set_option maxHeartbeats 2000000 in
theorem sCut_any {A : Option Addr} {n c m : Nat} {xs : List Int} {w : World} {L B : Nat} (h : Ints w L B A n xs) (hB : B ≤ w.heap.size) (hn : n ≤ 1048576) (hm : m ≤ 60) (hnc : n ≤ c) :
    Calls Try.prog 61 #[.slice A n c, .int .i64 m] w (OwnPost (cutL xs m) w) := by
  have HL := Lib.hid h.len
  have hok := Lib.hid h.ok
  have H := Lib.hid h
  clear h
  have hcase : ∃ t : Nat, t ≤ n ∧ cutL xs m = xs.take t ++ List.replicate (m - t) 0 ∧ ((m < n ∧ t = m) ∨ (n < m ∧ t = n) ∨ (m = n ∧ t = n)) ∧ (xs.take t).length = t ∧ t ≤ m := by
    have hl := HL.out
    by_cases h1 : m < n
    · exact ⟨m, by omega, by rw [cutL, show m - xs.length = m - m from by omega], .inl ⟨h1, rfl⟩, by rw [List.length_take]; omega, by omega⟩
    · refine ⟨n, Nat.le_refl _, ?_, by omega, by rw [List.length_take]; omega, by omega⟩
      rw [cutL, ← hl, List.take_of_length_le (by omega), List.take_of_length_le (by omega)]
  obtain ⟨t, ht, hcut, hcase, htl, htm⟩ := hcase
  have HC := Lib.hid hcut
  have HT := Lib.hid htl
  clear hcut htl
  have hpre : Calls Try.prog 43 #[.slice A t c] w (OwnPost (xs.take t) w) := copyInts_own (H.out.take ht) hB (by omega)
  have HP := Lib.hid hpre
  clear hpre
  rcases hcase with ⟨h1, h2⟩ | ⟨h1, h2⟩ | ⟨h1, h2⟩
  · have h3 := h2.symm
    subst h3
    go_enter Try.func61, Try.ntmps61
    go_wp2_with fail
    refine HP.out.mono ?_
    rintro e w1 ⟨v1, rfl, hb1, hown1⟩
    rw [HT.out] at hown1
    obtain ⟨A1, c1, rfl, _, _⟩ := hown1.ints (fun x hx => hok.out x (List.mem_of_mem_take hx))
    have HB1 := Lib.hid hb1
    have HO1 := Lib.hid hown1
    clear hb1 hown1
    go_wp2
    go_loopw [5] (fun o wr => ∃ A2 k c2, o = .slice A2 k c2 ∧ m ≤ k ∧ k ≤ m ∧ Hid (OwnI wr w.heap.size (.slice A2 k c2) k (xs.take m ++ List.replicate (k - m) 0)) ∧ Hid (Below w.heap.size w wr)) (fun o _ => m - lenX o)
    case atStart => exact ⟨A1, m, c1, rfl, Nat.le_refl _, htm, by rw [Nat.sub_self, List.replicate_zero, List.append_nil]; exact HO1.out, HB1.out⟩
    case round =>
      obtain ⟨A2, k, c2, rfl, hk1, hk2, hown, hbe⟩ := hrel
      by_cases hlt : k < m
      · have hs := hbe.out.size
        have hkl : ∀ u : Nat, u ≤ k → List.replicate (k - u) (0 : Int) ++ [0] = List.replicate (k + 1 - u) 0 := fun u hu => by rw [show k + 1 - u = (k - u) + 1 from by omega, List.replicate_succ']
        have HK := Lib.hid hkl
        clear hkl
        first
          | (exfalso; omega)
          | (go_wp2_with (at_builtin; refine wpList_append_ints rfl (.tmp 17) (.tmp 18) rfl w.heap.size (.slice A2 k c2) k _ rfl (hown.out.alloc _) (some ⟨wr.heap.size, 0, none⟩) 1 1 [0] rfl (one_zero wr) (by omega) (by simp; omega) ?_)
             intro v' w' hown' hg'
             have hbe' := (hbe.out.alloc hs (.cells #[.int .i64 0] 3)).trans (below_grown (hown.out.alloc _) hg' (by simp; omega))
             rw [HK.out _ hk1] at hown'
             obtain ⟨A3, c3, rfl, _, _⟩ := hown'.ints (fun x hx => by
               rcases List.mem_append.1 hx with h2 | h2
               · exact hok.out x (List.mem_of_mem_take h2)
               · rw [List.eq_of_mem_replicate h2]; unfold okInt; omega)
             have HO' := Lib.hid hown'
             have HB' := Lib.hid hbe'
             clear hown' hbe' hg'
             go_wp2
             go_roundw
             case rel => exact ⟨A3, k + 1, c3, rfl, by omega, by omega, HO', HB'⟩
             case measure => simp [lenX]; omega)
      · go_wp2
        go_ret
        obtain rfl : k = m := by omega
        refine ⟨_, rfl, hbe.out, ?_⟩
        rw [HC.out]
        have hl := hown.out.len
        rw [← hl]
        exact hown.out
  · have h3 := h2.symm
    subst h3
    go_enter Try.func61, Try.ntmps61
    go_wp2_with fail
    refine HP.out.mono ?_
    rintro e w1 ⟨v1, rfl, hb1, hown1⟩
    rw [HT.out] at hown1
    obtain ⟨A1, c1, rfl, _, _⟩ := hown1.ints (fun x hx => hok.out x (List.mem_of_mem_take hx))
    have HB1 := Lib.hid hb1
    have HO1 := Lib.hid hown1
    clear hb1 hown1
    go_wp2
    go_loopw [5] (fun o wr => ∃ A2 k c2, o = .slice A2 k c2 ∧ n ≤ k ∧ k ≤ m ∧ Hid (OwnI wr w.heap.size (.slice A2 k c2) k (xs.take n ++ List.replicate (k - n) 0)) ∧ Hid (Below w.heap.size w wr)) (fun o _ => m - lenX o)
    case atStart => exact ⟨A1, n, c1, rfl, Nat.le_refl _, htm, by rw [Nat.sub_self, List.replicate_zero, List.append_nil]; exact HO1.out, HB1.out⟩
    case round =>
      obtain ⟨A2, k, c2, rfl, hk1, hk2, hown, hbe⟩ := hrel
      by_cases hlt : k < m
      · have hs := hbe.out.size
        have hkl : ∀ u : Nat, u ≤ k → List.replicate (k - u) (0 : Int) ++ [0] = List.replicate (k + 1 - u) 0 := fun u hu => by rw [show k + 1 - u = (k - u) + 1 from by omega, List.replicate_succ']
        have HK := Lib.hid hkl
        clear hkl
        first
          | (exfalso; omega)
          | (go_wp2_with (at_builtin; refine wpList_append_ints rfl (.tmp 17) (.tmp 18) rfl w.heap.size (.slice A2 k c2) k _ rfl (hown.out.alloc _) (some ⟨wr.heap.size, 0, none⟩) 1 1 [0] rfl (one_zero wr) (by omega) (by simp; omega) ?_)
             intro v' w' hown' hg'
             have hbe' := (hbe.out.alloc hs (.cells #[.int .i64 0] 3)).trans (below_grown (hown.out.alloc _) hg' (by simp; omega))
             rw [HK.out _ hk1] at hown'
             obtain ⟨A3, c3, rfl, _, _⟩ := hown'.ints (fun x hx => by
               rcases List.mem_append.1 hx with h2 | h2
               · exact hok.out x (List.mem_of_mem_take h2)
               · rw [List.eq_of_mem_replicate h2]; unfold okInt; omega)
             have HO' := Lib.hid hown'
             have HB' := Lib.hid hbe'
             clear hown' hbe' hg'
             go_wp2
             go_roundw
             case rel => exact ⟨A3, k + 1, c3, rfl, by omega, by omega, HO', HB'⟩
             case measure => simp [lenX]; omega)
      · go_wp2
        go_ret
        obtain rfl : k = m := by omega
        refine ⟨_, rfl, hbe.out, ?_⟩
        rw [HC.out]
        have hl := hown.out.len
        rw [← hl]
        exact hown.out
  · have h3 := h2.symm
    subst h3
    go_enter Try.func61, Try.ntmps61
    go_wp2_with fail
    refine HP.out.mono ?_
    rintro e w1 ⟨v1, rfl, hb1, hown1⟩
    rw [HT.out] at hown1
    obtain ⟨A1, c1, rfl, _, _⟩ := hown1.ints (fun x hx => hok.out x (List.mem_of_mem_take hx))
    have HB1 := Lib.hid hb1
    have HO1 := Lib.hid hown1
    clear hb1 hown1
    go_wp2
    go_loopw [5] (fun o wr => ∃ A2 k c2, o = .slice A2 k c2 ∧ n ≤ k ∧ k ≤ m ∧ Hid (OwnI wr w.heap.size (.slice A2 k c2) k (xs.take n ++ List.replicate (k - n) 0)) ∧ Hid (Below w.heap.size w wr)) (fun o _ => m - lenX o)
    case atStart => exact ⟨A1, n, c1, rfl, Nat.le_refl _, htm, by rw [Nat.sub_self, List.replicate_zero, List.append_nil]; exact HO1.out, HB1.out⟩
    case round =>
      obtain ⟨A2, k, c2, rfl, hk1, hk2, hown, hbe⟩ := hrel
      by_cases hlt : k < m
      · have hs := hbe.out.size
        have hkl : ∀ u : Nat, u ≤ k → List.replicate (k - u) (0 : Int) ++ [0] = List.replicate (k + 1 - u) 0 := fun u hu => by rw [show k + 1 - u = (k - u) + 1 from by omega, List.replicate_succ']
        have HK := Lib.hid hkl
        clear hkl
        first
          | (exfalso; omega)
          | (go_wp2_with (at_builtin; refine wpList_append_ints rfl (.tmp 17) (.tmp 18) rfl w.heap.size (.slice A2 k c2) k _ rfl (hown.out.alloc _) (some ⟨wr.heap.size, 0, none⟩) 1 1 [0] rfl (one_zero wr) (by omega) (by simp; omega) ?_)
             intro v' w' hown' hg'
             have hbe' := (hbe.out.alloc hs (.cells #[.int .i64 0] 3)).trans (below_grown (hown.out.alloc _) hg' (by simp; omega))
             rw [HK.out _ hk1] at hown'
             obtain ⟨A3, c3, rfl, _, _⟩ := hown'.ints (fun x hx => by
               rcases List.mem_append.1 hx with h2 | h2
               · exact hok.out x (List.mem_of_mem_take h2)
               · rw [List.eq_of_mem_replicate h2]; unfold okInt; omega)
             have HO' := Lib.hid hown'
             have HB' := Lib.hid hbe'
             clear hown' hbe' hg'
             go_wp2
             go_roundw
             case rel => exact ⟨A3, k + 1, c3, rfl, by omega, by omega, HO', HB'⟩
             case measure => simp [lenX]; omega)
      · go_wp2
        go_ret
        obtain rfl : k = m := by omega
        refine ⟨_, rfl, hbe.out, ?_⟩
        rw [HC.out]
        have hl := hown.out.len
        rw [← hl]
        exact hown.out

set_option maxHeartbeats 2000000 in
theorem SCutDevice_any {A A' : Option Addr} {n c n' c' : Nat} {D S : List Int} {p q z : Int} {w : World} {L L' B B' : Nat} (h : Ints w L B A n D) (h' : Ints w L' B' A' n' S) (hB : B ≤ w.heap.size) (hB' : B' ≤ w.heap.size) (hnc : n ≤ c) :
    Calls Try.prog 24 #[.agg #[.slice (A) n c, .int .i64 (p), .slice (A') n' c', .int .i64 (q)], .int .i64 z] w (Post2 (cutOut D p S q z) w) := by
  have HL := Lib.hid h.len
  have HL' := Lib.hid h'.len
  have hok := Lib.hid h.ok
  have H1 := Lib.hid (fun o => (h.alloc hB (.cells #[.slice (A) n c, .int .i64 (p), .slice (A') n' c', .int .i64 (q)] 27)).alloc (by first | omega | (simp; omega) | (simp; done)) o)
  have H2 := Lib.hid (fun o => (h'.alloc hB' (.cells #[.slice (A) n c, .int .i64 (p), .slice (A') n' c', .int .i64 (q)] 27)).alloc (by first | omega | (simp; omega) | (simp; done)) o)
  have X0 := Lib.hid ((Box.new w 27 [.slice (A) n c, .int .i64 (p), .slice (A') n' c', .int .i64 (q)]).alloc (.cells #[.slice none 0 0, .int .i64 0, .slice none 0 0, .int .i64 0] 27))
  have R0 := Lib.hid (Box.new (w.alloc (.cells #[.slice (A) n c, .int .i64 (p), .slice (A') n' c', .int .i64 (q)] 27)) 27 [.slice none 0 0, .int .i64 0, .slice none 0 0, .int .i64 0])
  (try simp only [World.size_alloc, World.size_setCell, World.size_drew] at R0)
  by_cases hv : (validD D p S q && inB z 0 60) = true
  · obtain ⟨hvv, hz⟩ := Bool.and_eq_true_iff.1 hv
    obtain ⟨hbD, hS12, _, ⟨hp0, hp1⟩, hq0, hq1⟩ := validD_iff.1 hvv
    obtain ⟨hz0, hz1⟩ := inB_iff.1 hz
    obtain ⟨m, rfl⟩ := Int.eq_ofNat_of_zero_le hz0
    have hn60 : n ≤ 60 := by rw [HL.out]; exact bytesB_le hbD
    have hn12 : n' ≤ 12 := by rw [HL'.out]; exact hS12
    have HO : Hid (cutOut D p S q m = (⟨cutL D m, p, S, q⟩, true)) := by show _ = _; simp [cutOut, hvv, hz]
    have HV := Lib.hid hvv
    clear hv hvv hbD hS12
    go_enter Try.func24, Try.ntmps24
    go_wp2_with fail
    refine (validDevice_any (H1.out _) (H2.out _) (by first | omega | (simp; omega) | (simp; done)) (by first | omega | (simp; omega) | (simp; done))).mono ?_
    rintro e w1 ⟨rfl, hb1⟩
    rw [HV.out]
    (try simp only [World.size_alloc, World.size_setCell, World.size_drew] at hb1)
    have HB1 := Lib.hid hb1
    clear hb1
    have s1 := HB1.out.size
    (try simp only [World.size_alloc, World.size_setCell, World.size_drew] at s1)
    have X1 := Lib.hid (X0.out.below HB1.out (by omega))
    have R1 := Lib.hid (R0.out.below HB1.out (by omega))
    have I1 := Lib.hid ((H1.out _).below HB1.out (by omega))
    have I2 := Lib.hid ((H2.out _).below HB1.out (by omega))
    have x0 := (X1.out.2 0 _ rfl).1; have x1 := (X1.out.2 1 _ rfl).1; have x2 := (X1.out.2 2 _ rfl).1; have x3 := (X1.out.2 3 _ rfl).1
    go_wp2_with (first | (go_at_call 53; refine (inRange_any).mono ?_; rintro e w' ⟨rfl, rfl⟩) | fail)
    clear x0 x1 x2 x3
    refine (sCopyDevice_any I1.out I2.out (by omega) (by omega) (by omega) (by omega) (by unfold okInt; omega) (by unfold okInt; omega)).mono ?_
    rintro e w2 ⟨A2, n2, c2, A2', n2', c2', rfl, ⟨hc2, hc2'⟩, hb2, hd2, hd2', hap, hp2, hq2⟩
    have s2 := hb2.size
    have HD2' := Lib.hid (hd2'.alloc (Nat.le_refl _) (.cells #[.slice (A2) n2 c2, .int .i64 (p), .slice (A2') n2' c2', .int .i64 (q)] 27))
    have R2 := Lib.hid ((R1.out.below hb2 (by omega)).alloc (.cells #[.slice (A2) n2 c2, .int .i64 (p), .slice (A2') n2' c2', .int .i64 (q)] 27))
    have X2 := Lib.hid ((X1.out.below hb2 (by omega)).alloc (.cells #[.slice (A2) n2 c2, .int .i64 (p), .slice (A2') n2' c2', .int .i64 (q)] 27))
    have I3 := Lib.hid ((I1.out.below hb2 (by omega)).alloc (by omega) (.cells #[.slice (A2) n2 c2, .int .i64 (p), .slice (A2') n2' c2', .int .i64 (q)] 27))
    have E2 := Lib.hid ((below_step hb2 (below_step HB1.out (by go_grown) (by first | omega | (simp; omega) | (simp; done)) : Below w.heap.size w w1) (by omega)).alloc (by omega) (.cells #[.slice (A2) n2 c2, .int .i64 (p), .slice (A2') n2' c2', .int .i64 (q)] 27))
    have O2 := Lib.hid (Box.new w2 27 [.slice (A2) n2 c2, .int .i64 (p), .slice (A2') n2' c2', .int .i64 (q)])
    have g2 := (X1.out.below hb2 (by omega)).lt
    have y0 := ((X1.out.below hb2 (by omega)).2 0 _ rfl).1
    clear hb2 hd2 hd2' hap R1 X1 I1 I2
    go_wp2_with fail
    refine (sCut_any I3.out (by first | omega | (simp; omega) | (simp; done)) (by omega) (by omega) hnc).mono ?_
    rintro e w3 ⟨v3, rfl, hb3, hown3⟩
    (try simp only [World.size_alloc, World.size_setCell, World.size_drew] at hb3 hown3)
    obtain ⟨A3, c3, rfl, hc3, hi3⟩ := hown3.ints (cutL_ok hok.out)
    rw [cutL_len] at hc3 hi3
    have s3 := hb3.size
    (try simp only [World.size_alloc, World.size_setCell, World.size_drew] at s3)
    have HI3 := Lib.hid hi3
    have R3 := Lib.hid (R2.out.below hb3 (by omega))
    have O3 := Lib.hid (O2.out.below hb3 (by omega))
    have D3 := Lib.hid (HD2'.out.below hb3 (by omega))
    have E3 := Lib.hid (below_step hb3 E2.out (by omega))
    clear hb3 hi3 hown3 R2 O2 HD2' E2 X2 I3 y0 g2
    have o0 := (O3.out.2 0 _ rfl).1; have o1 := (O3.out.2 1 _ rfl).1; have o2 := (O3.out.2 2 _ rfl).1; have o3 := (O3.out.2 3 _ rfl).1
    have u0 := (O3.out.2 0 _ rfl).2; have u1 := (O3.out.2 1 _ rfl).2; have u2 := (O3.out.2 2 _ rfl).2; have u3 := (O3.out.2 3 _ rfl).2
    have x0 := (R3.out.2 0 _ rfl).1; have x1 := (R3.out.2 1 _ rfl).1; have x2 := (R3.out.2 2 _ rfl).1; have x3 := (R3.out.2 3 _ rfl).1
    have f0 := (R3.out.2 0 _ rfl).2; have f1 := (R3.out.2 1 _ rfl).2; have f2 := (R3.out.2 2 _ rfl).2; have f3 := (R3.out.2 3 _ rfl).2
    go_wp2
    refine bodyPost_ret (v := .tuple #[.agg #[.slice (A3) m c3, .int .i64 (p), .slice (A2') n2' c2', .int .i64 (q)], .bool true]) (by simp [results, Try.results24, go_sem, x0, x1, x2, x3, f0, f1, f2, f3, cutL_len]) rfl ?_
    rw [HO.out]
    refine ⟨_, _, _, _, _, _, rfl, ⟨hc3, hc2'⟩, ?_, ⟨?_, ?_, (Apart.of_le D3.out HI3.out (by omega)).symm, hp2, hq2⟩⟩
    · (repeat (with_reducible refine below_set ?_ (by omega) _))
      exact E3.out
    · simp only [World.size_setCell]
      refine Ints.more (lo := w2.heap.size + 1) (hi := w3.heap.size) ?_ (by omega) (by omega)
      (repeat (with_reducible refine Ints.set_ ?_ (by omega) _))
      exact HI3.out
    · simp only [World.size_setCell]
      refine Ints.more (lo := w1.heap.size) (hi := w2.heap.size) ?_ (by omega) (by omega)
      (repeat (with_reducible refine Ints.set_ ?_ (by omega) _))
      exact D3.out
  · have HO : Hid (cutOut D p S q z = (.zero, false)) := by show _ = _; rw [cutOut, if_neg hv]
    cases h1 : validD D p S q
    · have HV := Lib.hid h1
      clear h1 hv
      go_enter Try.func24, Try.ntmps24
      go_wp2_with fail
      refine (validDevice_any (H1.out _) (H2.out _) (by first | omega | (simp; omega) | (simp; done)) (by first | omega | (simp; omega) | (simp; done))).mono ?_
      rintro e w1 ⟨rfl, hb1⟩
      rw [HV.out]
      (try simp only [World.size_alloc, World.size_setCell, World.size_drew] at hb1)
      have HB1 := Lib.hid hb1
      clear hb1
      have R1 := Lib.hid (R0.out.below HB1.out (by omega))
      have x0 := (R1.out.2 0 _ rfl).1; have x1 := (R1.out.2 1 _ rfl).1; have x2 := (R1.out.2 2 _ rfl).1; have x3 := (R1.out.2 3 _ rfl).1
      have f0 := (R1.out.2 0 _ rfl).2; have f1 := (R1.out.2 1 _ rfl).2; have f2 := (R1.out.2 2 _ rfl).2; have f3 := (R1.out.2 3 _ rfl).2
      go_wp2
      refine bodyPost_ret (v := .tuple #[.agg #[.slice none 0 0, .int .i64 0, .slice none 0 0, .int .i64 0], .bool false]) (by simp [results, Try.results24, go_sem, x0, x1, x2, x3, f0, f1, f2, f3]) rfl ?_
      rw [HO.out]
      refine Post2.zero ?_
      (repeat (with_reducible refine below_set ?_ (by omega) _))
      exact below_step HB1.out (by go_grown) (by first | omega | (simp; omega) | (simp; done))
    · have h2 : inB z 0 60 = false := by rw [h1] at hv; simpa using hv
      have HV := Lib.hid h1
      clear h1 hv
      go_enter Try.func24, Try.ntmps24
      go_wp2_with fail
      refine (validDevice_any (H1.out _) (H2.out _) (by first | omega | (simp; omega) | (simp; done)) (by first | omega | (simp; omega) | (simp; done))).mono ?_
      rintro e w1 ⟨rfl, hb1⟩
      rw [HV.out]
      (try simp only [World.size_alloc, World.size_setCell, World.size_drew] at hb1)
      have HB1 := Lib.hid hb1
      clear hb1
      have R1 := Lib.hid (R0.out.below HB1.out (by omega))
      have x0 := (R1.out.2 0 _ rfl).1; have x1 := (R1.out.2 1 _ rfl).1; have x2 := (R1.out.2 2 _ rfl).1; have x3 := (R1.out.2 3 _ rfl).1
      have f0 := (R1.out.2 0 _ rfl).2; have f1 := (R1.out.2 1 _ rfl).2; have f2 := (R1.out.2 2 _ rfl).2; have f3 := (R1.out.2 3 _ rfl).2
      go_wp2_with (go_at_call 53; refine (inRange_any).mono ?_; rintro e w' ⟨rfl, rfl⟩)
      refine bodyPost_ret (v := .tuple #[.agg #[.slice none 0 0, .int .i64 0, .slice none 0 0, .int .i64 0], .bool false]) (by simp [results, Try.results24, go_sem, x0, x1, x2, x3, f0, f1, f2, f3]) rfl ?_
      rw [HO.out]
      refine Post2.zero ?_
      (repeat (with_reducible refine below_set ?_ (by omega) _))
      exact below_step HB1.out (by go_grown) (by first | omega | (simp; omega) | (simp; done))
theorem SCutDevice_x {A A' : Option Addr} {n c n' c' : Nat} {D S : List Int} {p q z : Int} {w : World} {L L' B B' : Nat} (h : Ints w L B A n D) (h' : Ints w L' B' A' n' S) (hB : B ≤ w.heap.size) (hB' : B' ≤ w.heap.size) (hc : n ≤ c) (_hc' : n' ≤ c') (_hn : n ≤ 1048576) (_hn' : n' ≤ 1048576) (_h1 : okInt z) :
    Calls Try.prog 24 #[.agg #[.slice (A) n c, .int .i64 (p), .slice (A') n' c', .int .i64 (q)], .int .i64 z] w (Post2 (cutOut D p S q z) w) := SCutDevice_any h h' hB hB' hc
end Go.Proofs.Ytbphijnhcpcclaa
