/- The model's seenIn, NewlineIn, EndsIn, NlNumber, NlState, CountEnds. -/
import Derived.Test.YtlekbmlacinkdaaN6
namespace Go.Proofs.Ytlekbmlacinkdaa
open Go.ChangeShapes Go.WideShapes Go.ChangeAt Go.RowKit
set_option linter.unusedSimpArgs false
set_option linter.unusedVariables false
set_option maxRecDepth 100000

set_option maxHeartbeats 4000000 in
theorem withMark_any {s k : Int} {w : World} (h1 : 0 ≤ s) (h2 : s ≤ 7) (hk : k = 1 ∨ k = 2 ∨ k = 4) :
    Calls Try.prog 60 #[.int .i64 s, .int .i64 k] w fun e w' => e = .returned (.int .i64 (orM s k)) ∧ w = w' := by
  have hs : s = 0 ∨ s = 1 ∨ s = 2 ∨ s = 3 ∨ s = 4 ∨ s = 5 ∨ s = 6 ∨ s = 7 := by omega
  rcases hs with rfl | rfl | rfl | rfl | rfl | rfl | rfl | rfl <;> rcases hk with rfl | rfl | rfl
  all_goals
    go_enter Try.func60, Try.ntmps60
    go_wp2
    go_ret
    exact ⟨rfl, rfl⟩
set_option maxHeartbeats 4000000 in
theorem seenIn_any {A : Option Addr} {n c : Nat} {xs : List Int} {held f : Bool} {s : Int} {w : World} {L B : Nat} (h : Ints w L B A n xs) (h1 : 0 ≤ s) (h2 : s ≤ 7) :
    Calls Try.prog 47 #[.slice A n c, .bool held, .bool f, .int .i64 s] w fun e w' => e = .returned (.int .i64 (nlS f held s xs)) ∧ w = w' := by
  obtain ⟨S, hS⟩ : ∃ S, nlS f held s xs = S := ⟨_, rfl⟩
  rw [hS]
  have ST : Hid (nlS f held s (xs.drop 0) = S) := hS
  clear hS
  have HL := Lib.hid h.len
  have hm := h.max
  go_enter Try.func47, Try.ntmps47
  go_wp2
  go_loop [1, 3, 9] (fun hv sv i => ∃ (j : Nat) (hd : Bool) (t : Int), j ≤ n ∧ hv = .bool hd ∧ sv = .int .i64 t ∧ i = .int .i64 j ∧ 0 ≤ t ∧ t ≤ 7 ∧ Hid (nlS f hd t (xs.drop j) = S)) (fun _ _ i => n - (intOf i).toNat)
  case atStart => exact ⟨0, held, s, Nat.zero_le _, rfl, rfl, rfl, h1, h2, ST⟩
  case round =>
    clear ST h1 h2
    obtain ⟨j, hd, t, hj, rfl, rfl, rfl, h1, h2, ST⟩ := hrel
    by_cases hlt : j < n
    · obtain ⟨b, o, x, rfl, _, hc, hx⟩ := h.at_ hlt
      have ST2 : Hid (nlS f (x == 13) (seen1 hd x t) (xs.drop (j + 1)) = S) := ((nl_drop (f := f) (hd := hd) (s := t) hx.out).2.2.symm.trans ST.out)
      have hin := seen1_in (held := hd) (x := x) h1 h2
      clear ST
      by_cases h10 : x = 10
      · subst h10
        have e13 : ((10 : Int) == 13) = false := rfl
        cases hd
        · go_wp2_with (go_at_call 60; refine (withMark_any (by omega) (by omega) (by decide : (2 : Int) = 1 ∨ (2 : Int) = 2 ∨ (2 : Int) = 4)).mono ?_; rintro e w' ⟨rfl, rfl⟩)
          go_round
          case rel => exact ⟨j + 1, false, _, by omega, rfl, rfl, by go_num, hin.1, hin.2, ST2⟩
          case measure => simp [intOf]; omega
        · go_wp2_with (go_at_call 60; refine (withMark_any (by omega) (by omega) (by decide : (4 : Int) = 1 ∨ (4 : Int) = 2 ∨ (4 : Int) = 4)).mono ?_; rintro e w' ⟨rfl, rfl⟩)
          go_round
          case rel => exact ⟨j + 1, false, _, by omega, rfl, rfl, by go_num, hin.1, hin.2, ST2⟩
          case measure => simp [intOf]; omega
      · have e10 : (x == 10) = false := by simp [h10]
        cases hd
        · have hs1 : seen1 false x t = t := by simp [seen1, e10]
          rw [hs1] at ST2 hin
          go_wp2
          go_round
          case rel => exact ⟨j + 1, (x == 13), t, by omega, rfl, rfl, by go_num, h1, h2, ST2⟩
          case measure => simp [intOf]; omega
        · have hs1 : seen1 true x t = orM t 1 := by simp [seen1, e10]
          rw [hs1] at ST2 hin
          go_wp2_with (go_at_call 60; refine (withMark_any (by omega) (by omega) (by decide : (1 : Int) = 1 ∨ (1 : Int) = 2 ∨ (1 : Int) = 4)).mono ?_; rintro e w' ⟨rfl, rfl⟩)
          go_round
          case rel => exact ⟨j + 1, (x == 13), _, by omega, rfl, rfl, by go_num, hin.1, hin.2, ST2⟩
          case measure => simp [intOf]; omega
    · obtain rfl : n = j := by omega
      have hst := ST.out
      rw [List.drop_of_length_le (by have := HL.out; omega)] at hst
      clear ST
      simp only [nlS] at hst
      cases hd
      · have hst : t = S := by simpa using hst
        subst hst
        go_wp2
        go_ret
        exact ⟨rfl, rfl⟩
      · cases f
        · have hst : t = S := by simpa using hst
          subst hst
          go_wp2
          go_ret
          exact ⟨rfl, rfl⟩
        · have hst : orM t 1 = S := by simpa using hst
          subst hst
          go_wp2_with (go_at_call 60; refine (withMark_any (by omega) (by omega) (by decide : (1 : Int) = 1 ∨ (1 : Int) = 2 ∨ (1 : Int) = 4)).mono ?_; rintro e w' ⟨rfl, rfl⟩)
          go_ret
          exact ⟨rfl, rfl⟩
set_option maxHeartbeats 1000000 in
theorem validNl_any {held : Bool} {s : Int} {w : World} : Calls Try.prog 44 #[.agg #[.bool held, .int .i64 s]] w (BoolB (inB s 0 7) w) := by
  have X0 := Lib.hid (Box.new w 24 [.bool held, .int .i64 s])
  have x1 := (X0.out.2 1 _ rfl).1
  go_enter Try.func44, Try.ntmps44
  go_wp2_with (go_at_call 57; refine (inRange_any).mono ?_; rintro e w' ⟨rfl, rfl⟩)
  go_ret
  exact ⟨rfl, by go_grown⟩
set_option maxHeartbeats 1000000 in
theorem SNlNumber_any {held : Bool} {s : Int} {w : World} : Calls Try.prog 30 #[.agg #[.bool held, .int .i64 s]] w (IntB (nnOut held s) w) := by
  have X0 := Lib.hid (Box.new w 24 [.bool held, .int .i64 s])
  cases hv : inB s 0 7
  · have HV := Lib.hid hv
    clear hv
    have x0 := (X0.out.2 0 _ rfl).1; have x1 := (X0.out.2 1 _ rfl).1
    go_enter Try.func30, Try.ntmps30
    go_wp2_with fail
    refine validNl_any.mono ?_
    rintro e w1 ⟨rfl, hb1⟩
    rw [HV.out]
    have HB1 := Lib.hid hb1
    clear hb1 x0 x1
    go_wp2
    go_ret
    have e0 : nnOut held s = -1 := by simp [nnOut, HV.out]
    rw [e0]
    exact ⟨rfl, below_step HB1.out (by go_grown) (by first | omega | (simp; omega) | (simp; done))⟩
  · have HV := Lib.hid hv
    obtain ⟨h0, h7⟩ := inB_iff.1 hv
    clear hv
    have x0 := (X0.out.2 0 _ rfl).1; have x1 := (X0.out.2 1 _ rfl).1
    go_enter Try.func30, Try.ntmps30
    go_wp2_with fail
    refine validNl_any.mono ?_
    rintro e w1 ⟨rfl, hb1⟩
    rw [HV.out]
    (try simp only [World.size_alloc, World.size_setCell, World.size_drew] at hb1)
    have X1 := Lib.hid (X0.out.below hb1 (by omega))
    have HB1 := Lib.hid hb1
    clear hb1 x0 x1
    have x0 := (X1.out.2 0 _ rfl).1; have x1 := (X1.out.2 1 _ rfl).1
    cases held
    all_goals
      go_wp2
      go_ret
      refine ⟨ret_int ?_, below_step HB1.out (by go_grown) (by first | omega | (simp; omega) | (simp; done))⟩
      (first | done | simp [nnOut, HV.out])
set_option maxHeartbeats 1000000 in
theorem SNlState_any {n : Int} {w : World} : Calls Try.prog 33 #[.int .i64 n] w (NbPost (nsH n) (nsS n) (inB n 0 15) w) := by
  have R0 := Lib.hid (Box.new w 24 [.bool false, .int .i64 0])
  have r0 := (R0.out.2 0 _ rfl).1; have r1 := (R0.out.2 1 _ rfl).1; have f0 := (R0.out.2 0 _ rfl).2; have f1 := (R0.out.2 1 _ rfl).2
  cases hv : inB n 0 15
  · have e1 : nsH n = false := by simp [nsH, hv]
    have e2 : nsS n = 0 := by simp [nsS, hv]
    rw [e1, e2]
    clear e1 e2
    go_enter Try.func33, Try.ntmps33
    go_wp2_with (go_at_call 57; refine (inRange_any).mono ?_; rintro e w' ⟨rfl, rfl⟩)
    refine bodyPost_ret (v := .tuple #[.agg #[.bool false, .int .i64 0], .bool false]) (by simp [results, Try.results33, go_sem, r0, r1, f0, f1]) rfl ?_
    refine ⟨rfl, ?_⟩
    (repeat (with_reducible refine below_set ?_ (by omega) _))
    go_grown
  · have e1 : nsH n = decide (n % 2 = 1) := by simp [nsH, hv]
    have e2 : nsS n = n / 2 := by simp [nsS, hv]
    rw [e1, e2]
    clear e1 e2
    obtain ⟨h0, h15⟩ := inB_iff.1 hv
    have b1 : n % 2 < 2 := Int.emod_lt_of_pos _ (by omega)
    have b2 : 0 ≤ n % 2 := Int.emod_nonneg _ (by omega)
    have b3 : (n % 2 == 1) = decide (n % 2 = 1) := by by_cases h : n % 2 = 1 <;> simp [h]
    have m1 : n.tmod 2 = n % 2 := Int.tmod_eq_emod_of_nonneg h0
    have m2 : n.tdiv 2 = n / 2 := Int.tdiv_eq_ediv_of_nonneg h0
    go_enter Try.func33, Try.ntmps33
    go_wp2_with (go_at_call 57; refine (inRange_any).mono ?_; rintro e w' ⟨rfl, rfl⟩)
    refine bodyPost_ret (v := .tuple #[.agg #[.bool (decide (n % 2 = 1)), .int .i64 (n / 2)], .bool true]) (by simp [results, Try.results33, go_sem, r0, r1, f0, f1, b3]) rfl ?_
    refine ⟨rfl, ?_⟩
    (repeat (with_reducible refine below_set ?_ (by omega) _))
    go_grown
set_option maxHeartbeats 2000000 in
theorem SEndsIn_any {A : Option Addr} {n c : Nat} {xs : List Int} {w : World} {L B : Nat} (h : Ints w L B A n xs) :
    Calls Try.prog 36 #[.slice A n c] w (IntB (eiOut xs) w) := by
  have HI := Lib.hid h
  clear h
  cases hv : bytesB xs
  · have HV := Lib.hid hv
    have HE : Hid (eiOut xs = -1) := by show _ = _; simp [eiOut, hv]
    rw [HE.out]
    clear hv
    go_enter Try.func36, Try.ntmps36
    go_wp2_with fail
    refine (validBytes_any HI.out).mono ?_
    rintro e w1 ⟨rfl, rfl⟩
    rw [HV.out]
    go_wp2
    go_ret
    exact ⟨rfl, Below.refl _ _⟩
  · have HV := Lib.hid hv
    have HE : Hid (eiOut xs = nlS true false 0 xs) := by show _ = _; simp [eiOut, hv]
    rw [HE.out]
    clear hv
    go_enter Try.func36, Try.ntmps36
    go_wp2_with fail
    refine (validBytes_any HI.out).mono ?_
    rintro e w1 ⟨rfl, rfl⟩
    rw [HV.out]
    go_wp2_with fail
    refine (seenIn_any HI.out (by decide) (by decide)).mono ?_
    rintro e w1 ⟨rfl, rfl⟩
    go_wp2
    go_ret
    exact ⟨rfl, Below.refl _ _⟩
set_option maxHeartbeats 4000000 in
theorem SNewlineIn_any {A : Option Addr} {n c : Nat} {xs : List Int} {held f : Bool} {s : Int} {w : World} {L B : Nat} (h : Ints w L B A n xs) (hB : B ≤ w.heap.size) (hnc : n ≤ c) (hs : okInt s) :
    Calls Try.prog 13 #[.agg #[.bool held, .int .i64 s], .slice A n c, .bool f] w (NlPost (niH held f s xs) (niS held f s xs) (niL held f s xs) w) := by
  have X0 : Hid (Box ((w.alloc (.cells #[.bool held, .int .i64 s] 24)).alloc (.cells #[.bool false, .int .i64 0] 24)) w.heap.size [.bool held, .int .i64 s]) := (Box.new w 24 [.bool held, .int .i64 s]).alloc _
  have R0 : Hid (Box ((w.alloc (.cells #[.bool held, .int .i64 s] 24)).alloc (.cells #[.bool false, .int .i64 0] 24)) (w.heap.size + 1) [.bool false, .int .i64 0]) := by
    have hx := Box.new (w.alloc (.cells #[.bool held, .int .i64 s] 24)) 24 [.bool false, .int .i64 0]
    rw [World.size_alloc] at hx
    exact hx
  have I0 : Hid (Ints ((w.alloc (.cells #[.bool held, .int .i64 s] 24)).alloc (.cells #[.bool false, .int .i64 0] 24)) L B A n xs) := (h.alloc hB _).alloc (by first | omega | (simp; omega) | (simp; done)) _
  have E0 : Hid (Below w.heap.size w ((w.alloc (.cells #[.bool held, .int .i64 s] 24)).alloc (.cells #[.bool false, .int .i64 0] 24))) := (by go_grown : Below w.heap.size w _)
  have s0 : w.heap.size + 2 ≤ ((w.alloc (.cells #[.bool held, .int .i64 s] 24)).alloc (.cells #[.bool false, .int .i64 0] 24)).heap.size := by simp
  have HL := Lib.hid h.len
  clear h
  cases hok : niOk s xs
  · obtain ⟨e1, e2, e3⟩ := ni_no (held := held) (f := f) hok
    rw [e1, e2, e3]
    clear e1 e2 e3
    have HC : Hid (inB s 0 7 = false ∨ (inB s 0 7 = true ∧ bytesB xs = false)) := by
      show _ ∨ _
      unfold niOk at hok
      cases h1 : inB s 0 7
      · exact .inl rfl
      · rw [h1] at hok; exact .inr ⟨rfl, by simpa using hok⟩
    clear hok
    go_enter Try.func13, Try.ntmps13
    go_upto_region 1 with (fail)
    generalize ((w.alloc (.cells #[.bool held, .int .i64 s] 24)).alloc (.cells #[.bool false, .int .i64 0] 24)) = w0 at *
    have x0 := (X0.out.2 0 _ rfl).1; have x1 := (X0.out.2 1 _ rfl).1
    go_wp2_with fail
    refine validNl_any.mono ?_
    rintro e w1 ⟨rfl, hb1⟩
    have HB1 := Lib.hid hb1
    have R1 := Lib.hid (R0.out.below hb1 (by omega))
    have I1 := Lib.hid (I0.out.below hb1 (by omega))
    have E1 := Lib.hid (below_step hb1 E0.out (by omega))
    clear hb1 x0 x1
    rcases HC.out with hc | ⟨hc, hd⟩
    · rw [hc]
      have r0 := (R1.out.2 0 _ rfl).1; have r1 := (R1.out.2 1 _ rfl).1; have f0 := (R1.out.2 0 _ rfl).2; have f1 := (R1.out.2 1 _ rfl).2
      go_wp2
      refine bodyPost_ret (v := .tuple #[.agg #[.bool false, .int .i64 0], .slice none 0 0]) (by simp [results, Try.results13, go_sem, r0, r1, f0, f1]) rfl ?_
      refine ⟨none, 0, 0, rfl, Nat.le_refl _, ?_, (Ints.nil _ _ _ 0 _).1⟩
      (repeat (with_reducible refine below_set ?_ (by omega) _))
      exact E1.out
    · rw [hc]
      go_wp2_with fail
      refine (validBytes_any I1.out).mono ?_
      rintro e w2 ⟨rfl, rfl⟩
      rw [hd]
      have r0 := (R1.out.2 0 _ rfl).1; have r1 := (R1.out.2 1 _ rfl).1; have f0 := (R1.out.2 0 _ rfl).2; have f1 := (R1.out.2 1 _ rfl).2
      go_wp2
      refine bodyPost_ret (v := .tuple #[.agg #[.bool false, .int .i64 0], .slice none 0 0]) (by simp [results, Try.results13, go_sem, r0, r1, f0, f1]) rfl ?_
      refine ⟨none, 0, 0, rfl, Nat.le_refl _, ?_, (Ints.nil _ _ _ 0 _).1⟩
      (repeat (with_reducible refine below_set ?_ (by omega) _))
      exact E1.out
  · obtain ⟨e1, e2, e3⟩ := ni_yes (held := held) (f := f) hok
    rw [e1, e2, e3]
    clear e1 e2 e3
    unfold niOk at hok
    rw [Bool.and_eq_true] at hok
    obtain ⟨hc, hd⟩ := hok
    obtain ⟨h0, h7⟩ := inB_iff.1 hc
    have hn60 : n ≤ 60 := by rw [HL.out]; exact bytesB_le hd
    have HC := Lib.hid hc; have HD := Lib.hid hd
    clear hc hd
    go_enter Try.func13, Try.ntmps13
    go_upto_region 1 with (fail)
    generalize ((w.alloc (.cells #[.bool held, .int .i64 s] 24)).alloc (.cells #[.bool false, .int .i64 0] 24)) = w0 at *
    have x0 := (X0.out.2 0 _ rfl).1; have x1 := (X0.out.2 1 _ rfl).1
    go_wp2_with fail
    refine validNl_any.mono ?_
    rintro e w1 ⟨rfl, hb1⟩
    have X1 := Lib.hid (X0.out.below hb1 (by omega))
    have R1 := Lib.hid (R0.out.below hb1 (by omega))
    have I1 := Lib.hid (I0.out.below hb1 (by omega))
    have E1 := Lib.hid (below_step hb1 E0.out (by omega))
    have s1 := hb1.size
    clear hb1 x0 x1
    rw [HC.out]
    go_wp2_with fail
    refine (validBytes_any I1.out).mono ?_
    rintro e w2 ⟨rfl, rfl⟩
    rw [HD.out]
    have x0 := (X1.out.2 0 _ rfl).1; have x1 := (X1.out.2 1 _ rfl).1
    go_wp2_with fail
    clear x0 x1
    refine (newlines_any I1.out (by omega) (by omega)).mono ?_
    rintro e w2 ⟨A2, n2, c2, rfl, hc2, hb2, hi2⟩
    have X2 := Lib.hid (X1.out.below hb2 (by omega))
    have R2 := Lib.hid (R1.out.below hb2 (by omega))
    have I2 := Lib.hid (I1.out.below hb2 (by omega))
    have HI2 := Lib.hid hi2
    have E2 := Lib.hid (below_step hb2 E1.out (by omega))
    have s2 := hb2.size
    clear hb2 hi2
    have HS := fun w => Lib.hid (seenIn_any (A := A) (n := n) (c := c) (xs := xs) (held := held) (f := f) (s := s) (w := w) (L := L) (B := B))
    generalize (nlH held xs && !f) = H at *
    generalize nlS f held s xs = S at *
    generalize nlM f held xs = R at *
    have x0 := (X2.out.2 0 _ rfl).1; have x1 := (X2.out.2 1 _ rfl).1
    have r0 := (R2.out.2 0 _ rfl).1; have r1 := (R2.out.2 1 _ rfl).1; have f0 := (R2.out.2 0 _ rfl).2; have f1 := (R2.out.2 1 _ rfl).2
    go_wp2_with fail
    refine ((HS _).out I2.out h0 h7).mono ?_
    rintro e w3 ⟨rfl, rfl⟩
    go_wp2
    refine bodyPost_ret (v := .tuple #[.agg #[.bool H, .int .i64 S], .slice A2 n2 c2]) (by simp [results, Try.results13, go_sem, r0, r1, f0, f1]) rfl ?_
    refine ⟨_, _, _, rfl, hc2, ?_, ?_⟩
    · (repeat (with_reducible refine below_set ?_ (by omega) _))
      exact E2.out
    · simp only [World.size_setCell]
      refine Ints.more (lo := w1.heap.size) (hi := w2.heap.size) ?_ (by omega) (Nat.le_refl _)
      (repeat (with_reducible refine Ints.set_ ?_ (by omega) _))
      exact HI2.out
end Go.Proofs.Ytlekbmlacinkdaa
