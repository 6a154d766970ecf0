/- Contract of PlainRead, the model's. -/
import Derived.Test.YtdiebkaedjlckaaS4a
import Derived.OwnWalk
namespace Go.Proofs.Ytdiebkaedjlckaa
open Go.ChangeShapes Go.WideShapes Go.ChangeAt Go.RowKit
set_option linter.unusedSimpArgs false
set_option linter.unusedVariables false
set_option maxRecDepth 10000

set_option maxHeartbeats 8000000 in
theorem SPlainRead_x {A : Option Addr} {n c : Nat} {D : List Int} {p z : Int} {w : World} {L B : Nat} (h : Ints w L B A n D) (hB : B ≤ w.heap.size) (hc : n ≤ c) (_hn : n ≤ 1048576) (_hz : okInt z) :
    Calls Try.prog 17 #[.agg #[.slice (A) n c, .int .i64 (p)], .int .i64 z] w (PostPL (prOut D p z) w) := by
  have HL := Lib.hid h.len
  have H1 : Hid (Ints ((w.alloc (.cells #[.slice (A) n c, .int .i64 (p)] 35)).alloc (.cells #[.slice none 0 0, .int .i64 0] 35)) L B A n D) := (h.alloc hB _).alloc (by first | omega | (simp; omega) | (simp; done)) _
  have X0 : Hid (Box ((w.alloc (.cells #[.slice (A) n c, .int .i64 (p)] 35)).alloc (.cells #[.slice none 0 0, .int .i64 0] 35)) w.heap.size [.slice (A) n c, .int .i64 (p)]) := (Box.new w 35 [.slice (A) n c, .int .i64 (p)]).alloc _
  have R0 : Hid (Box ((w.alloc (.cells #[.slice (A) n c, .int .i64 (p)] 35)).alloc (.cells #[.slice none 0 0, .int .i64 0] 35)) (w.heap.size + 1) [.slice none 0 0, .int .i64 0]) := by
    have hx := Box.new (w.alloc (.cells #[.slice (A) n c, .int .i64 (p)] 35)) 35 [.slice none 0 0, .int .i64 0]
    rw [World.size_alloc] at hx
    exact hx
  have E0 : Hid (Below w.heap.size w ((w.alloc (.cells #[.slice (A) n c, .int .i64 (p)] 35)).alloc (.cells #[.slice none 0 0, .int .i64 0] 35))) := (by go_grown : Below w.heap.size w _)
  have s0 : (((w.alloc (.cells #[.slice (A) n c, .int .i64 (p)] 35)).alloc (.cells #[.slice none 0 0, .int .i64 0] 35))).heap.size = w.heap.size + 2 := by simp
  clear h
  have x0 := (X0.out.2 0 _ rfl).1; have x1 := (X0.out.2 1 _ rfl).1
  go_enter Try.func17, Try.ntmps17
  go_wp2_with fail
  generalize ((w.alloc (.cells #[.slice (A) n c, .int .i64 (p)] 35)).alloc (.cells #[.slice none 0 0, .int .i64 0] 35)) = w0 at *
  clear x0 x1
  refine (validPlain_any H1.out (by omega)).mono ?_
  rintro e w1 ⟨rfl, hb1⟩
  have s1 := hb1.size
  have E1 := Lib.hid (below_step hb1 E0.out (by omega))
  have X1 := Lib.hid (X0.out.below hb1 (by omega))
  have R1 := Lib.hid (R0.out.below hb1 (by omega))
  have I1 := Lib.hid (H1.out.below hb1 (by omega))
  clear hb1 H1 X0 R0 E0
  cases hv : validP D p
  · have HO : Hid (prOut D p z = (Pv.zero, [])) := by show _ = _; simp [prOut, hv]
    clear hv
    have r0 := (R1.out.2 0 _ rfl).1; have r1 := (R1.out.2 1 _ rfl).1
    have g0 := (R1.out.2 0 _ rfl).2; have g1 := (R1.out.2 1 _ rfl).2
    go_wp2
    refine bodyPost_ret (v := .tuple #[.agg #[.slice none 0 0, .int .i64 0], .slice none 0 0]) (by simp [results, Try.results17, go_sem, r0, r1, g0, g1]) rfl ?_
    rw [HO.out]
    refine ⟨none, 0, 0, none, 0, 0, rfl, ⟨Nat.le_refl _, Nat.le_refl _⟩, ?_, (Ints.nil _ _ _ 0 _).1, (Ints.nil _ _ _ 0 _).1, Apart.zero, ok0⟩
    (repeat (with_reducible refine below_set ?_ (by omega) _))
    exact E1.out
  · have HV := Lib.hid hv
    cases hz : inB z 0 60
    · have HO : Hid (prOut D p z = (Pv.zero, [])) := by show _ = _; simp [prOut, hz]
      clear hv
      have r0 := (R1.out.2 0 _ rfl).1; have r1 := (R1.out.2 1 _ rfl).1
      have g0 := (R1.out.2 0 _ rfl).2; have g1 := (R1.out.2 1 _ rfl).2
      go_wp2_with (go_at_call 51; refine (inRange_any).mono ?_; rintro e w' ⟨rfl, rfl⟩)
      refine bodyPost_ret (v := .tuple #[.agg #[.slice none 0 0, .int .i64 0], .slice none 0 0]) (by simp [results, Try.results17, go_sem, r0, r1, g0, g1]) rfl ?_
      rw [HO.out]
      refine ⟨none, 0, 0, none, 0, 0, rfl, ⟨Nat.le_refl _, Nat.le_refl _⟩, ?_, (Ints.nil _ _ _ 0 _).1, (Ints.nil _ _ _ 0 _).1, Apart.zero, ok0⟩
      (repeat (with_reducible refine below_set ?_ (by omega) _))
      exact E1.out
    · have HO : Hid (prOut D p z = (⟨D, p + ((prL D p z).length : Int)⟩, prL D p z)) := by show _ = _; simp [prOut, hz, hv]
      obtain ⟨hb, hp0, hp1⟩ := validP_iff.1 hv
      have hn60 : n ≤ 60 := by rw [HL.out]; exact bytesB_le hb
      obtain ⟨hz0, hz1⟩ := inB_iff.1 hz
      clear hv hb
      obtain ⟨j, rfl⟩ := Int.eq_ofNat_of_zero_le hz0
      obtain ⟨a, rfl⟩ := Int.eq_ofNat_of_zero_le hp0
      -- low, high
      obtain ⟨l, hl, hl1, hl2, hlc⟩ : ∃ l : Nat, min a n = l ∧ l ≤ n ∧ l ≤ a ∧ ((n < a ∧ l = n) ∨ (¬ n < a ∧ l = a)) := ⟨_, rfl, by omega, by omega, by omega⟩
      obtain ⟨m, hm, hm1, hmc⟩ : ∃ m : Nat, min j (n - l) = m ∧ l + m ≤ n ∧ ((l + j < n ∧ m = j) ∨ (¬ l + j < n ∧ m = n - l)) := ⟨_, rfl, by omega, by omega⟩
      have HPL : Hid (prL D a j = (D.drop l).take m) := by
        show _ = _
        have hn := HL.out
        unfold prL
        rw [Int.toNat_natCast, Int.toNat_natCast]
        by_cases e : n < a
        · rw [List.drop_of_length_le (by omega), List.drop_of_length_le (show D.length ≤ l by omega)]
          simp
        · rw [show l = a by omega]
          refine take_same ?_
          rw [List.length_drop]
          omega
      have HPN : Hid ((prL D a j).length = m) := by
        show _ = _
        have hn := HL.out
        rw [HPL.out, List.length_take, List.length_drop]; omega
      obtain ⟨u, hu⟩ : ∃ u : Nat, l + m = u := ⟨_, rfl⟩
      have HU := Lib.hid hu
      have hlj : IntKind.i64.wrap ((l : Int) + (j : Int)) = (l : Int) + (j : Int) := IntWalk.i64_in _ (by omega)
      have hau : IntKind.i64.wrap ((a : Int) + (u : Int)) = (a : Int) + (u : Int) := IntWalk.i64_in _ (by omega)
      have haul : IntKind.i64.wrap ((a : Int) + (u : Int) - (l : Int)) = (a : Int) + (m : Int) := by rw [IntWalk.i64_in _ (by omega)]; omega
      have hlu : (l : Int) ≤ (u : Int) := by omega
      have hl0 : (0 : Int) ≤ (l : Int) := by omega
      have huc : (u : Int) ≤ (c : Int) := by omega
      have hsub : u - l = m := by omega
      have hun : u ≤ n := by omega
      have huN : l ≤ u := by omega
      have hminl : (if n < a then (n : Int) else (a : Int)) = (l : Int) := by rcases hlc with ⟨e, rfl⟩ | ⟨e, rfl⟩ <;> simp [e]
      have hminl2 : (if (n : Int) < (a : Int) then (n : Int) else (a : Int)) = (l : Int) := by rcases hlc with ⟨e, rfl⟩ | ⟨e, rfl⟩ <;> simp [e]
      have hminh : (if (l : Int) + (j : Int) < (n : Int) then (l : Int) + (j : Int) else (n : Int)) = (u : Int) := by split <;> omega
      have hwN : n ≤ 60 := hn60
      clear hl hm hu hlc hmc
      by_cases hcm : c = l
      · obtain rfl : n = c := by omega
        obtain rfl : n = l := by omega
        obtain rfl : n = u := by omega
        obtain rfl : 0 = m := by omega
        have hwa : IntKind.i64.wrap (a : Int) = (a : Int) := IntWalk.i64_in _ (by omega)
        have hnn : (n : Int) ≤ (n : Int) := by omega
        have HT : Hid (Ints w1 L B A 0 ((D.drop n).take 0)) := by
          show Ints _ _ _ _ _ _
          rw [List.take_zero]
          exact (Ints.nil _ _ _ 0 _).1
        have x0 := (X1.out.2 0 _ rfl).1; have x1 := (X1.out.2 1 _ rfl).1
        go_wp2_with (go_at_call 51; refine (inRange_any).mono ?_; rintro e w' ⟨rfl, rfl⟩)
        go_region_held3 (fun w' => w'.cell? ⟨w.heap.size, 0, none⟩ = some (.slice A n n) ∧ w'.cell? ⟨w.heap.size, 1, none⟩ = some (.int .i64 (a : Int))) (go_keep)
          (first | (go_at_call 52; refine (copyInts_any J2.out (by omega) (by omega)).mono ?_; rintro e w3 ⟨A3, n3, c3, rfl, hc3, hb3, hi3⟩; have HB3 := Lib.hid hb3; have HI3 := Lib.hid hi3; have s3 := hb3.size; have X3 := Lib.hid (X2.out.below hb3 (by omega)); have R3 := Lib.hid (R2.out.below hb3 (by omega)); clear hb3 hi3; clear x0 x1; have x0 := (X3.out.2 0 _ rfl).1; have x1 := (X3.out.2 1 _ rfl).1; have r0 := (R3.out.2 0 _ rfl).1; have r1 := (R3.out.2 1 _ rfl).1; have g0 := (R3.out.2 0 _ rfl).2; have g1 := (R3.out.2 1 _ rfl).2) | (go_at_call 52; refine (copyInts_any I1.out.drew (by first | omega | (simp; omega) | (simp; done)) (by omega)).mono ?_; rintro e w2 ⟨A2, n2, c2, rfl, hc2, hb2, hi2⟩; (try simp only [World.size_alloc, World.size_setCell, World.size_drew] at hb2 hi2); have HB2 := Lib.hid hb2; have HI2 := Lib.hid hi2; have s2 := hb2.size; (try simp only [World.size_alloc, World.size_setCell, World.size_drew] at s2); have X2 := Lib.hid (X1.out.drew.below hb2 (by omega)); have R2 := Lib.hid (R1.out.drew.below hb2 (by omega)); have J2 := Lib.hid (HT.out.drew.below hb2 (by first | omega | (simp; omega) | (simp; done))); clear hb2 hi2; clear x0 x1; have x0 := (X2.out.2 0 _ rfl).1; have x1 := (X2.out.2 1 _ rfl).1))
        all_goals
          go_wp2
          refine bodyPost_ret (v := .tuple #[.agg #[.slice (A2) n2 c2, .int .i64 ((a : Int))], .slice A3 n3 c3]) (by simp [results, Try.results17, go_sem, r0, r1, g0, g1]) rfl ?_
          rw [HO.out]
          have K2 := HI2.out.below HB3.out (by omega)
          refine ⟨A2, n2, c2, A3, n3, c3, by rw [HPN.out]; simp, ⟨hc2, hc3⟩, ?_, ?_, ?_, ?_, ?_⟩
          · (repeat (with_reducible refine below_set ?_ (by omega) _))
            exact below_step HB3.out (below_step HB2.out E1.out.drew (by first | omega | (simp; omega) | (simp; done))) (by omega)
          · simp only [World.size_setCell]
            refine Ints.more (lo := w1.heap.size) (hi := w2.heap.size) ?_ (by omega) (by omega)
            (repeat (with_reducible refine Ints.set_ ?_ (by omega) _))
            exact K2
          · simp only [World.size_setCell]
            rw [HPL.out]
            refine Ints.more (lo := w2.heap.size) (hi := w3.heap.size) ?_ (by omega) (by omega)
            (repeat (with_reducible refine Ints.set_ ?_ (by omega) _))
            exact HI3.out
          · exact (Apart.of_le K2 HI3.out (by omega)).symm
          · unfold okInt; show _ ≤ (a : Int) + ((prL D a j).length : Int) ∧ (a : Int) + ((prL D a j).length : Int) ≤ _; rw [HPN.out]; omega
      · have HT : Hid (Ints w1 L B (A.map fun x => x.add l) m ((D.drop l).take m)) := by
          show Ints _ _ _ _ _ _
          exact (I1.out.drop (by omega)).take (by omega)
        have x0 := (X1.out.2 0 _ rfl).1; have x1 := (X1.out.2 1 _ rfl).1
        go_wp2_with (go_at_call 51; refine (inRange_any).mono ?_; rintro e w' ⟨rfl, rfl⟩)
        go_region_held3 (fun w' => w'.cell? ⟨w.heap.size, 0, none⟩ = some (.slice A n c) ∧ w'.cell? ⟨w.heap.size, 1, none⟩ = some (.int .i64 (a : Int))) (go_keep)
          (first | (go_at_call 52; refine (copyInts_any J2.out (by omega) (by omega)).mono ?_; rintro e w3 ⟨A3, n3, c3, rfl, hc3, hb3, hi3⟩; have HB3 := Lib.hid hb3; have HI3 := Lib.hid hi3; have s3 := hb3.size; have X3 := Lib.hid (X2.out.below hb3 (by omega)); have R3 := Lib.hid (R2.out.below hb3 (by omega)); clear hb3 hi3; clear x0 x1; have x0 := (X3.out.2 0 _ rfl).1; have x1 := (X3.out.2 1 _ rfl).1; have r0 := (R3.out.2 0 _ rfl).1; have r1 := (R3.out.2 1 _ rfl).1; have g0 := (R3.out.2 0 _ rfl).2; have g1 := (R3.out.2 1 _ rfl).2) | (go_at_call 52; refine (copyInts_any I1.out.drew (by first | omega | (simp; omega) | (simp; done)) (by omega)).mono ?_; rintro e w2 ⟨A2, n2, c2, rfl, hc2, hb2, hi2⟩; (try simp only [World.size_alloc, World.size_setCell, World.size_drew] at hb2 hi2); have HB2 := Lib.hid hb2; have HI2 := Lib.hid hi2; have s2 := hb2.size; (try simp only [World.size_alloc, World.size_setCell, World.size_drew] at s2); have X2 := Lib.hid (X1.out.drew.below hb2 (by omega)); have R2 := Lib.hid (R1.out.drew.below hb2 (by omega)); have J2 := Lib.hid (HT.out.drew.below hb2 (by first | omega | (simp; omega) | (simp; done))); clear hb2 hi2; clear x0 x1; have x0 := (X2.out.2 0 _ rfl).1; have x1 := (X2.out.2 1 _ rfl).1))
        all_goals
          go_wp2
          refine bodyPost_ret (v := .tuple #[.agg #[.slice (A2) n2 c2, .int .i64 ((a : Int) + (m : Int))], .slice A3 n3 c3]) (by simp [results, Try.results17, go_sem, r0, r1, g0, g1]) rfl ?_
          rw [HO.out]
          have K2 := HI2.out.below HB3.out (by omega)
          refine ⟨A2, n2, c2, A3, n3, c3, by rw [HPN.out], ⟨hc2, hc3⟩, ?_, ?_, ?_, ?_, ?_⟩
          · (repeat (with_reducible refine below_set ?_ (by omega) _))
            exact below_step HB3.out (below_step HB2.out E1.out.drew (by first | omega | (simp; omega) | (simp; done))) (by omega)
          · simp only [World.size_setCell]
            refine Ints.more (lo := w1.heap.size) (hi := w2.heap.size) ?_ (by omega) (by omega)
            (repeat (with_reducible refine Ints.set_ ?_ (by omega) _))
            exact K2
          · simp only [World.size_setCell]
            rw [HPL.out]
            refine Ints.more (lo := w2.heap.size) (hi := w3.heap.size) ?_ (by omega) (by omega)
            (repeat (with_reducible refine Ints.set_ ?_ (by omega) _))
            exact HI3.out
          · exact (Apart.of_le K2 HI3.out (by omega)).symm
          · unfold okInt; show _ ≤ (a : Int) + ((prL D a j).length : Int) ∧ (a : Int) + ((prL D a j).length : Int) ≤ _; rw [HPN.out]; omega
end Go.Proofs.Ytdiebkaedjlckaa
