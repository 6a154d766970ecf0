/- Contracts of plain files, the model's. -/
import Derived.Test.YtdiebkaedjlckaaC4a
import Derived.Test.YtdiebkaedjlckaaS3b
import Derived.Test.YtdiebkaedjlckaaS1h
namespace Go.Proofs.Ytdiebkaedjlckaa
open Go.ChangeShapes Go.WideShapes Go.ChangeAt Go.RowKit
set_option linter.unusedSimpArgs false
set_option linter.unusedVariables false
set_option maxRecDepth 10000

/-- A list laid over bytes, also one that has nothing. -/
theorem overlaid_all {A A1 : Option Addr} {n c n1 c1 a : Nat} {D L1 : List Int} {w : World} {L L' B B' : Nat} (h : Ints w L B A n D) (h' : Ints w L' B' A1 n1 L1) (hB : B ≤ w.heap.size) (hB' : B' ≤ w.heap.size) (hn : n ≤ 1000) (hn1 : n1 ≤ 1000) (ha : a ≤ 1000) :
    Calls Try.prog 60 #[.slice A n c, .int .i64 (a : Int), .slice A1 n1 c1] w (ListPost (wrL D a L1) w) := by
  by_cases h0 : n1 = 0
  · subst h0
    have e : L1 = [] := List.eq_nil_of_length_eq_zero h'.len.symm
    have e2 : wrL D a L1 = D := by rw [e]; simp [wrL]
    rw [e2]
    exact overlaid_none h hB hn
  · exact overlaid_any h h' hB hB' hn hn1 (by omega) ha
set_option maxHeartbeats 1000000 in
theorem validPlain_any {A : Option Addr} {n c : Nat} {D : List Int} {p : Int} {w : World} {L B : Nat} (h : Ints w L B A n D) (hB : B ≤ w.heap.size) :
    Calls Try.prog 50 #[.agg #[.slice (A) n c, .int .i64 (p)]] w (BoolB (validP D p) w) := by
  have H1 := Lib.hid (h.alloc hB (.cells #[.slice (A) n c, .int .i64 (p)] 35))
  clear h
  cases hb : bytesB D
  · go_enter Try.func50, Try.ntmps50
    go_wp2_with fail
    refine (validBytes_any H1.out).mono ?_
    rintro e w1 ⟨rfl, rfl⟩
    rw [hb]
    go_wp2
    go_ret
    exact ⟨ret_bool (by simp [validP, hb]), by go_grown⟩
  · go_enter Try.func50, Try.ntmps50
    go_wp2_with fail
    refine (validBytes_any H1.out).mono ?_
    rintro e w1 ⟨rfl, rfl⟩
    rw [hb]
    go_wp2_with (go_at_call 51; refine (inRange_any).mono ?_; rintro e w' ⟨rfl, rfl⟩)
    go_ret
    exact ⟨ret_bool (by simp [validP, hb]), by go_grown⟩
set_option maxHeartbeats 8000000 in
theorem SPlainWrite_x {A A1 : Option Addr} {n c n1 c1 : Nat} {D L1 : List Int} {p : Int} {w : World} {L B L' B' : Nat} (h : Ints w L B A n D) (h' : Ints w L' B' A1 n1 L1) (hB : B ≤ w.heap.size) (hB' : B' ≤ w.heap.size) (hc : n ≤ c) (hc1 : n1 ≤ c1) (_hn : n ≤ 1048576) (_hn1 : n1 ≤ 1048576) :
    Calls Try.prog 23 #[.agg #[.slice (A) n c, .int .i64 (p)], .slice A1 n1 c1] w (PostPI (pwOut D p L1) w) := by
  have HL := Lib.hid h.len
  have HL1 := Lib.hid h'.len
  have H1 : Hid (Ints ((w.alloc (.cells #[.slice (A) n c, .int .i64 (p)] 35)).alloc (.cells #[.slice none 0 0, .int .i64 0] 35)) L B A n D) := (h.alloc hB _).alloc (by first | omega | (simp; omega) | (simp; done)) _
  have G1 : Hid (Ints ((w.alloc (.cells #[.slice (A) n c, .int .i64 (p)] 35)).alloc (.cells #[.slice none 0 0, .int .i64 0] 35)) L' B' A1 n1 L1) := (h'.alloc hB' _).alloc (by first | omega | (simp; omega) | (simp; done)) _
  have X0 : Hid (Box ((w.alloc (.cells #[.slice (A) n c, .int .i64 (p)] 35)).alloc (.cells #[.slice none 0 0, .int .i64 0] 35)) w.heap.size [.slice (A) n c, .int .i64 (p)]) := (Box.new w 35 [.slice (A) n c, .int .i64 (p)]).alloc _
  have R0 : Hid (Box ((w.alloc (.cells #[.slice (A) n c, .int .i64 (p)] 35)).alloc (.cells #[.slice none 0 0, .int .i64 0] 35)) (w.heap.size + 1) [.slice none 0 0, .int .i64 0]) := by
    have hx := Box.new (w.alloc (.cells #[.slice (A) n c, .int .i64 (p)] 35)) 35 [.slice none 0 0, .int .i64 0]
    rw [World.size_alloc] at hx
    exact hx
  have E0 : Hid (Below w.heap.size w ((w.alloc (.cells #[.slice (A) n c, .int .i64 (p)] 35)).alloc (.cells #[.slice none 0 0, .int .i64 0] 35))) := (by go_grown : Below w.heap.size w _)
  have s0 : (((w.alloc (.cells #[.slice (A) n c, .int .i64 (p)] 35)).alloc (.cells #[.slice none 0 0, .int .i64 0] 35))).heap.size = w.heap.size + 2 := by simp
  clear h h'
  have x0 := (X0.out.2 0 _ rfl).1; have x1 := (X0.out.2 1 _ rfl).1
  go_enter Try.func23, Try.ntmps23
  go_wp2_with fail
  generalize ((w.alloc (.cells #[.slice (A) n c, .int .i64 (p)] 35)).alloc (.cells #[.slice none 0 0, .int .i64 0] 35)) = w0 at *
  clear x0 x1
  refine (validPlain_any H1.out (by omega)).mono ?_
  rintro e w1 ⟨rfl, hb1⟩
  have s1 := hb1.size
  have E1 := Lib.hid (below_step hb1 E0.out (by omega))
  have X1 := Lib.hid (X0.out.below hb1 (by omega))
  have R1 := Lib.hid (R0.out.below hb1 (by omega))
  have I1 := Lib.hid (H1.out.below hb1 (by omega))
  have G2 := Lib.hid (G1.out.below hb1 (by omega))
  clear hb1 H1 G1 X0 R0 E0
  cases hv : validP D p
  · have HO : Hid (pwOut D p L1 = (Pv.zero, 0)) := by show _ = _; simp [pwOut, hv]
    clear hv
    have r0 := (R1.out.2 0 _ rfl).1; have r1 := (R1.out.2 1 _ rfl).1
    have g0 := (R1.out.2 0 _ rfl).2; have g1 := (R1.out.2 1 _ rfl).2
    go_wp2
    refine bodyPost_ret (v := .tuple #[.agg #[.slice none 0 0, .int .i64 0], .int .i64 0]) (by simp [results, Try.results23, go_sem, r0, r1, g0, g1]) rfl ?_
    rw [HO.out]
    refine ⟨none, 0, 0, rfl, Nat.le_refl _, ?_, (Ints.nil _ _ _ 0 _).1, ok0⟩
    (repeat (with_reducible refine below_set ?_ (by omega) _))
    exact E1.out
  · cases hz : bytesB L1
    · have HO : Hid (pwOut D p L1 = (Pv.zero, 0)) := by show _ = _; simp [pwOut, hz]
      clear hv
      have r0 := (R1.out.2 0 _ rfl).1; have r1 := (R1.out.2 1 _ rfl).1
      have g0 := (R1.out.2 0 _ rfl).2; have g1 := (R1.out.2 1 _ rfl).2
      go_wp2_with fail
      refine (validBytes_any G2.out).mono ?_
      rintro e w2 ⟨rfl, rfl⟩
      rw [hz]
      go_wp2
      refine bodyPost_ret (v := .tuple #[.agg #[.slice none 0 0, .int .i64 0], .int .i64 0]) (by simp [results, Try.results23, go_sem, r0, r1, g0, g1]) rfl ?_
      rw [HO.out]
      refine ⟨none, 0, 0, rfl, Nat.le_refl _, ?_, (Ints.nil _ _ _ 0 _).1, ok0⟩
      (repeat (with_reducible refine below_set ?_ (by omega) _))
      exact E1.out
    · have HO : Hid (pwOut D p L1 = (Pv.mk (wrL D p.toNat (L1.take (waM p.toNat L1.length))) (p + ((waM p.toNat L1.length : Nat) : Int)), ((waM p.toNat L1.length : Nat) : Int))) := by show _ = _; simp [pwOut, hz, hv]
      obtain ⟨hb, hp0, hp1⟩ := validP_iff.1 hv
      have hn60 : n ≤ 60 := by rw [HL.out]; exact bytesB_le hb
      have hn160 : n1 ≤ 60 := by rw [HL1.out]; exact bytesB_le hz
      obtain ⟨a, rfl⟩ := Int.eq_ofNat_of_zero_le hp0
      rw [Int.toNat_natCast] at HO
      obtain ⟨r, hr⟩ : ∃ r : Nat, r = 60 - a := ⟨_, rfl⟩
      have hwr : IntKind.i64.wrap (60 - (a : Int)) = (r : Int) := by rw [IntWalk.i64_in _ (by omega)]; omega
      obtain ⟨m, hm, hm1, hmc⟩ : ∃ m : Nat, waM a L1.length = m ∧ m ≤ n1 ∧ ((r < n1 ∧ m = r) ∨ (¬ r < n1 ∧ m = n1)) := ⟨_, rfl, by unfold waM; rw [← HL1.out]; omega, by unfold waM; rw [← HL1.out]; omega⟩
      rw [hm] at HO
      have hm60 : m ≤ 60 := by omega
      have hwa : IntKind.i64.wrap ((a : Int) + (m : Int)) = (a : Int) + (m : Int) := IntWalk.i64_in _ (by omega)
      have hmI : (m : Int) ≤ (c1 : Int) := by omega
      have hm0 : (0 : Int) ≤ (m : Int) := by omega
      have hmin : (if (r : Int) < (n1 : Int) then (r : Int) else (n1 : Int)) = (m : Int) := by rcases hmc with ⟨e, rfl⟩ | ⟨e, rfl⟩ <;> split <;> omega
      have hmin2 : (if r < n1 then (r : Int) else (n1 : Int)) = (m : Int) := by rcases hmc with ⟨e, rfl⟩ | ⟨e, rfl⟩ <;> simp [e]
      have G3 := Lib.hid (G2.out.take hm1)
      clear hv hb hm hmc hr
      have x0 := (X1.out.2 0 _ rfl).1; have x1 := (X1.out.2 1 _ rfl).1
      go_wp2_with fail
      refine (validBytes_any G2.out).mono ?_
      rintro e w2 ⟨rfl, rfl⟩
      rw [hz]
      go_wp2_with fail
      go_region_held3 (fun w' => w'.cell? ⟨w.heap.size, 0, none⟩ = some (.slice A n c) ∧ w'.cell? ⟨w.heap.size, 1, none⟩ = some (.int .i64 (a : Int))) (go_keep)
        ((go_at_call 60; refine (overlaid_all (a := a) I1.out.drew G3.out.drew (by first | omega | (simp; omega) | (simp; done)) (by first | omega | (simp; omega) | (simp; done)) (by omega) (by omega) (by omega)).mono ?_; rintro e w3 ⟨A3, n3, c3, rfl, hc3, hb3, hi3⟩; (try simp only [World.size_alloc, World.size_setCell, World.size_drew] at hb3 hi3); have HB3 := Lib.hid hb3; have HI3 := Lib.hid hi3; have s3 := hb3.size; (try simp only [World.size_alloc, World.size_setCell, World.size_drew] at s3); have X3 := Lib.hid (X1.out.drew.below hb3 (by omega)); have R3 := Lib.hid (R1.out.drew.below hb3 (by omega)); clear hb3 hi3; clear x0 x1; have x0 := (X3.out.2 0 _ rfl).1; have x1 := (X3.out.2 1 _ rfl).1; have r0 := (R3.out.2 0 _ rfl).1; have r1 := (R3.out.2 1 _ rfl).1; have g0 := (R3.out.2 0 _ rfl).2; have g1 := (R3.out.2 1 _ rfl).2))
      all_goals
        go_wp2
        refine bodyPost_ret (v := .tuple #[.agg #[.slice (A3) n3 c3, .int .i64 ((a : Int) + (m : Int))], .int .i64 (m : Int)]) (by simp [results, Try.results23, go_sem, r0, r1, g0, g1]) rfl ?_
        rw [HO.out]
        refine ⟨A3, n3, c3, rfl, hc3, ?_, ?_, ?_⟩
        · (repeat (with_reducible refine below_set ?_ (by omega) _))
          exact below_step HB3.out E1.out.drew (by first | omega | (simp; omega) | (simp; done))
        · simp only [World.size_setCell]
          refine Ints.more (lo := w1.heap.size) (hi := w3.heap.size) ?_ (by omega) (by omega)
          (repeat (with_reducible refine Ints.set_ ?_ (by omega) _))
          exact HI3.out
        · unfold okInt; show _ ≤ (a : Int) + (m : Int) ∧ (a : Int) + (m : Int) ≤ _; omega
set_option maxHeartbeats 4000000 in
theorem SPlainSeek_x {A : Option Addr} {n c : Nat} {D : List Int} {p off wh : Int} {w : World} {L B : Nat} (h : Ints w L B A n D) (hB : B ≤ w.heap.size) (_hc : n ≤ c) (_hn : n ≤ 1048576) (_h1 : okInt off) (_h2 : okInt wh) :
    Calls Try.prog 25 #[.agg #[.slice (A) n c, .int .i64 (p)], .int .i64 off, .int .i64 wh] w (PostPB (psOut D p off wh) w) := by
  have HL := Lib.hid h.len
  have H1 : Hid (Ints ((w.alloc (.cells #[.slice (A) n c, .int .i64 (p)] 35)).alloc (.cells #[.slice none 0 0, .int .i64 0] 35)) L B A n D) := (h.alloc hB _).alloc (by first | omega | (simp; omega) | (simp; done)) _
  have X0 : Hid (Box ((w.alloc (.cells #[.slice (A) n c, .int .i64 (p)] 35)).alloc (.cells #[.slice none 0 0, .int .i64 0] 35)) w.heap.size [.slice (A) n c, .int .i64 (p)]) := (Box.new w 35 [.slice (A) n c, .int .i64 (p)]).alloc _
  have R0 : Hid (Box ((w.alloc (.cells #[.slice (A) n c, .int .i64 (p)] 35)).alloc (.cells #[.slice none 0 0, .int .i64 0] 35)) (w.heap.size + 1) [.slice none 0 0, .int .i64 0]) := by
    have hx := Box.new (w.alloc (.cells #[.slice (A) n c, .int .i64 (p)] 35)) 35 [.slice none 0 0, .int .i64 0]
    rw [World.size_alloc] at hx
    exact hx
  have E0 : Hid (Below w.heap.size w ((w.alloc (.cells #[.slice (A) n c, .int .i64 (p)] 35)).alloc (.cells #[.slice none 0 0, .int .i64 0] 35))) := (by go_grown : Below w.heap.size w _)
  have s0 : (((w.alloc (.cells #[.slice (A) n c, .int .i64 (p)] 35)).alloc (.cells #[.slice none 0 0, .int .i64 0] 35))).heap.size = w.heap.size + 2 := by simp
  clear h
  have x0 := (X0.out.2 0 _ rfl).1; have x1 := (X0.out.2 1 _ rfl).1
  go_enter Try.func25, Try.ntmps25
  go_wp2_with fail
  generalize ((w.alloc (.cells #[.slice (A) n c, .int .i64 (p)] 35)).alloc (.cells #[.slice none 0 0, .int .i64 0] 35)) = w0 at *
  clear x0 x1
  refine (validPlain_any H1.out (by omega)).mono ?_
  rintro e w1 ⟨rfl, hb1⟩
  have s1 := hb1.size
  have E1 := Lib.hid (below_step hb1 E0.out (by omega))
  have X1 := Lib.hid (X0.out.below hb1 (by omega))
  have R1 := Lib.hid (R0.out.below hb1 (by omega))
  have I1 := Lib.hid (H1.out.below hb1 (by omega))
  clear hb1 H1 X0 R0 E0
  have zero : seekOut D p [] 0 off wh = (Dv.zero, false) → Hid (psOut D p off wh = (Pv.zero, false)) := fun e => by show _ = _; unfold psOut; rw [e]; rfl
  cases hv : validP D p
  · have HO := zero (by unfold seekOut; rw [validP_D, hv]; rfl)
    clear hv zero
    have r0 := (R1.out.2 0 _ rfl).1; have r1 := (R1.out.2 1 _ rfl).1
    have g0 := (R1.out.2 0 _ rfl).2; have g1 := (R1.out.2 1 _ rfl).2
    go_wp2
    refine bodyPost_ret (v := .tuple #[.agg #[.slice none 0 0, .int .i64 0], .bool false]) (by simp [results, Try.results25, go_sem, r0, r1, g0, g1]) rfl ?_
    rw [HO.out]
    refine ⟨none, 0, 0, rfl, Nat.le_refl _, ?_, (Ints.nil _ _ _ 0 _).1, ok0⟩
    (repeat (with_reducible refine below_set ?_ (by omega) _))
    exact E1.out
  · obtain ⟨hb, hp0, hp1⟩ := validP_iff.1 hv
    have hn60 : n ≤ 60 := by rw [HL.out]; exact bytesB_le hb
    cases hg : (inB off (-60) 60 && inB wh 0 2)
    · have HO := zero (by unfold seekOut seekAt; rw [hg]; simp [seekOk])
      clear hv zero hb
      have r0 := (R1.out.2 0 _ rfl).1; have r1 := (R1.out.2 1 _ rfl).1
      have g0 := (R1.out.2 0 _ rfl).2; have g1 := (R1.out.2 1 _ rfl).2
      go_wp2_with fail
      refine goodSeek_any.mono ?_
      rintro e w2 ⟨rfl, rfl⟩
      rw [hg]
      go_wp2
      refine bodyPost_ret (v := .tuple #[.agg #[.slice none 0 0, .int .i64 0], .bool false]) (by simp [results, Try.results25, go_sem, r0, r1, g0, g1]) rfl ?_
      rw [HO.out]
      refine ⟨none, 0, 0, rfl, Nat.le_refl _, ?_, (Ints.nil _ _ _ 0 _).1, ok0⟩
      (repeat (with_reducible refine below_set ?_ (by omega) _))
      exact E1.out
    · have hcall := fun wx : World => placeFor_any (w := wx) (off := off) (wh := wh) (now := p) (size := (D.length : Int)) (by omega) (by rw [← HL.out]; omega) hp0 hp1 hg
      have hto := seekTo_in (size := D.length) (now := p) (off := off) (wh := wh)
      have HS : Hid (seekOut D p [] 0 off wh = if seekOk (seekAt D.length p off wh) then (⟨D, seekTo (seekAt D.length p off wh), [], 0⟩, true) else (.zero, false)) := by
        show _ = _
        unfold seekOut
        rw [validP_D, hv]
        rfl
      rw [← HL.out] at hcall HS hto
      cases hT : seekAt (n : Int) p off wh with
      | none =>
        have HO := zero (by rw [HS.out, hT]; rfl)
        have HC : Hid (∀ wx : World, Calls Try.prog 63 #[.int .i64 (n : Int), .int .i64 p, .int .i64 off, .int .i64 wh] wx fun e w' => e = .returned (.int .i64 (-1)) ∧ wx = w') := by
          show ∀ _, _
          intro wx
          have := hcall wx
          rw [hT] at this
          exact this
        clear hv zero hb hcall hT HS hto
        have x0 := (X1.out.2 0 _ rfl).1; have x1 := (X1.out.2 1 _ rfl).1
        have r0 := (R1.out.2 0 _ rfl).1; have r1 := (R1.out.2 1 _ rfl).1
        have g0 := (R1.out.2 0 _ rfl).2; have g1 := (R1.out.2 1 _ rfl).2
        go_wp2_with fail
        refine goodSeek_any.mono ?_
        rintro e w2 ⟨rfl, rfl⟩
        rw [hg]
        go_wp2_with fail
        refine (HC.out _).mono ?_
        rintro e w2 ⟨rfl, rfl⟩
        go_wp2
        refine bodyPost_ret (v := .tuple #[.agg #[.slice none 0 0, .int .i64 0], .bool false]) (by simp [results, Try.results25, go_sem, r0, r1, g0, g1]) rfl ?_
        rw [HO.out]
        refine ⟨none, 0, 0, rfl, Nat.le_refl _, ?_, (Ints.nil _ _ _ 0 _).1, ok0⟩
        (repeat (with_reducible refine below_set ?_ (by omega) _))
        exact E1.out
      | some t =>
        have HO : Hid (psOut D p off wh = (Pv.mk D t, true)) := by show _ = _; unfold psOut; rw [HS.out, hT]; rfl
        have HC : Hid (∀ wx : World, Calls Try.prog 63 #[.int .i64 (n : Int), .int .i64 p, .int .i64 off, .int .i64 wh] wx fun e w' => e = .returned (.int .i64 t) ∧ wx = w') := by
          show ∀ _, _
          intro wx
          have := hcall wx
          rw [hT] at this
          exact this
        rw [hT] at hto
        have ht0 : 0 ≤ t := hto.1
        have ht1 : t ≤ 60 := hto.2
        have htn : ¬ t < 0 := by omega
        clear hv zero hb hcall hT HS hto
        have x0 := (X1.out.2 0 _ rfl).1; have x1 := (X1.out.2 1 _ rfl).1
        go_wp2_with fail
        refine goodSeek_any.mono ?_
        rintro e w2 ⟨rfl, rfl⟩
        rw [hg]
        go_wp2_with fail
        refine (HC.out _).mono ?_
        rintro e w2 ⟨rfl, rfl⟩
        go_wp2_with fail
        refine (copyInts_any I1.out (by omega) (by omega)).mono ?_
        rintro e w3 ⟨A3, n3, c3, rfl, hc3, hb3, hi3⟩
        have s3 := hb3.size
        have E3 := Lib.hid (below_step hb3 E1.out (by omega))
        have R3 := Lib.hid (R1.out.below hb3 (by omega))
        have HI := Lib.hid hi3
        clear hb3 hi3
        clear x0 x1
        have r0 := (R3.out.2 0 _ rfl).1; have r1 := (R3.out.2 1 _ rfl).1
        have g0 := (R3.out.2 0 _ rfl).2; have g1 := (R3.out.2 1 _ rfl).2
        go_wp2
        refine bodyPost_ret (v := .tuple #[.agg #[.slice (A3) n3 c3, .int .i64 (t)], .bool true]) (by simp [results, Try.results25, go_sem, r0, r1, g0, g1]) rfl ?_
        rw [HO.out]
        refine ⟨A3, n3, c3, rfl, hc3, ?_, ?_, ?_⟩
        · (repeat (with_reducible refine below_set ?_ (by omega) _))
          exact E3.out
        · simp only [World.size_setCell]
          refine Ints.more (lo := w1.heap.size) (hi := w3.heap.size) ?_ (by omega) (by omega)
          (repeat (with_reducible refine Ints.set_ ?_ (by omega) _))
          exact HI.out
        · unfold okInt; show _ ≤ t ∧ t ≤ _; omega
end Go.Proofs.Ytdiebkaedjlckaa
