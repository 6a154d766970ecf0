/- The model's flush. -/
import Derived.Test.YtdiebkaedjlckaaDoorFU
import Derived.Test.YtdiebkaedjlckaaDoorApp2
import Derived.Test.YtdiebkaedjlckaaDoorS1l
import Derived.Deep.DeepCutAuto
import Derived.Test.YtdiebkaedjlckaaDoorS3a
namespace Go.Proofs.YtdiebkaedjlckaaDoor
open Go.ChangeShapes Go.WideShapes Go.ChangeAt Go.RowKit
set_option linter.unusedSimpArgs false
set_option linter.unusedVariables false
set_option maxRecDepth 10000

/-- A walk goes on in a world of which only F is known. -/
theorem wp_renameW {P : Program} {c : Code} {K : Exit → Act → World → Prop} {a : Act} {W : World} (F : World → Prop) (hF : F W) (h : ∀ w2, F w2 → Code.wp P c K a w2) : Code.wp P c K a W := h W hF

/-- What the model's flush gives: bytes and what is not written where they were, or in new memory. -/
def SFlushPost (A : Option Addr) (n M C : Nat) (A' : Option Addr) (n' c' : Nat) (z : Int) (A2 : Option Addr) (n2 M2 C2 : Nat) (T : Fv) (w : World) (e : Ending) (w' : World) : Prop :=
  ∃ A1 n1 c1 A5 n5 c5 M1 C1 M5 C5, e = .returned (.tuple #[.agg #[.slice (A1) n1 c1, .int .i64 (T.p), .slice (A') n' c', .int .i64 ((T.q : Int)), .slice (A5) n5 c5, .int .i64 (z)], .int .i64 T.st]) ∧ (n1 ≤ c1 ∧ n5 ≤ c5) ∧ Below w.heap.size w w' ∧ (Ints w' M1 C1 A1 n1 T.d ∧ Ints w' M5 C5 A5 n5 T.r) ∧ (C1 ≤ w'.heap.size ∧ C5 ≤ w'.heap.size) ∧
    ((A1 = A ∧ n1 = n ∧ M1 = M ∧ C1 = C) ∨ w.heap.size ≤ M1) ∧ ((A5 = A2 ∧ n5 = n2 ∧ M5 = M2 ∧ C5 = C2) ∨ w.heap.size ≤ M5) ∧ Apart A5 n5 A1 n1
set_option maxHeartbeats 8000000 in
theorem flushed_any {A A' A2 : Option Addr} {n c n' c' n2 c2 q0 : Nat} {D S R : List Int} {p z : Int} {w : World} {M C L' B' M2 C2 : Nat} (h : Ints w M C A n D) (h' : Ints w L' B' A' n' S) (g : Ints w M2 C2 A2 n2 R) (hC : C ≤ w.heap.size) (hB' : B' ≤ w.heap.size) (hC2 : C2 ≤ w.heap.size) (hap : Apart A2 n2 A n)
    (hnc : n ≤ c) (hn2 : n2 ≤ c2) (hv : validD D p S (q0 : Int) = true) (hq : q0 ≤ 900) (hR : R.length ≤ 16) (hR2 : allB R 0 255 = true) :
    Calls Tryd.prog 87 #[.agg #[.slice (A) n c, .int .i64 (p), .slice (A') n' c', .int .i64 ((q0 : Int)), .slice (A2) n2 c2, .int .i64 (z)]] w (SFlushPost A n M C A' n' c' z A2 n2 M2 C2 (fuGo S R.length D p q0 R) w) := by
  obtain ⟨T, hT⟩ : ∃ T, fuGo S R.length D p q0 R = T := ⟨_, rfl⟩
  rw [hT]
  have HT := Lib.hid hT
  have HV := Lib.hid hv
  have HR2 := Lib.hid hR2
  have HAP := Lib.hid hap
  have HS := Lib.hid h'
  have hl2 : n2 ≤ R.length := Nat.le_of_eq g.len
  have D0 : Hid (Ints ((w.alloc (.cells #[.slice (A) n c, .int .i64 (p), .slice (A') n' c', .int .i64 ((q0 : Int)), .slice (A2) n2 c2, .int .i64 (z)] 30)).alloc (.cells #[.slice none 0 0, .int .i64 0, .slice none 0 0, .int .i64 0, .slice none 0 0, .int .i64 0] 30)) M C A n D) := (h.alloc hC _).alloc (by first | omega | (simp; omega) | (simp; done)) _
  have G0 : Hid (Ints ((w.alloc (.cells #[.slice (A) n c, .int .i64 (p), .slice (A') n' c', .int .i64 ((q0 : Int)), .slice (A2) n2 c2, .int .i64 (z)] 30)).alloc (.cells #[.slice none 0 0, .int .i64 0, .slice none 0 0, .int .i64 0, .slice none 0 0, .int .i64 0] 30)) M2 C2 A2 n2 R) := (g.alloc hC2 _).alloc (by first | omega | (simp; omega) | (simp; done)) _
  have X0 : Hid (Box ((w.alloc (.cells #[.slice (A) n c, .int .i64 (p), .slice (A') n' c', .int .i64 ((q0 : Int)), .slice (A2) n2 c2, .int .i64 (z)] 30)).alloc (.cells #[.slice none 0 0, .int .i64 0, .slice none 0 0, .int .i64 0, .slice none 0 0, .int .i64 0] 30)) w.heap.size [.slice (A) n c, .int .i64 (p), .slice (A') n' c', .int .i64 ((q0 : Int)), .slice (A2) n2 c2, .int .i64 (z)]) := (Box.new w 30 [.slice (A) n c, .int .i64 (p), .slice (A') n' c', .int .i64 ((q0 : Int)), .slice (A2) n2 c2, .int .i64 (z)]).alloc _
  have R0 : Hid (Box ((w.alloc (.cells #[.slice (A) n c, .int .i64 (p), .slice (A') n' c', .int .i64 ((q0 : Int)), .slice (A2) n2 c2, .int .i64 (z)] 30)).alloc (.cells #[.slice none 0 0, .int .i64 0, .slice none 0 0, .int .i64 0, .slice none 0 0, .int .i64 0] 30)) (w.heap.size + 1) [.slice none 0 0, .int .i64 0, .slice none 0 0, .int .i64 0, .slice none 0 0, .int .i64 0]) := by
    have hx := Box.new (w.alloc (.cells #[.slice (A) n c, .int .i64 (p), .slice (A') n' c', .int .i64 ((q0 : Int)), .slice (A2) n2 c2, .int .i64 (z)] 30)) 30 [.slice none 0 0, .int .i64 0, .slice none 0 0, .int .i64 0, .slice none 0 0, .int .i64 0]
    rw [World.size_alloc] at hx
    exact hx
  have E0 : Hid (Below w.heap.size w ((w.alloc (.cells #[.slice (A) n c, .int .i64 (p), .slice (A') n' c', .int .i64 ((q0 : Int)), .slice (A2) n2 c2, .int .i64 (z)] 30)).alloc (.cells #[.slice none 0 0, .int .i64 0, .slice none 0 0, .int .i64 0, .slice none 0 0, .int .i64 0] 30))) := (by go_grown : Below w.heap.size w _)
  have s0 : (((w.alloc (.cells #[.slice (A) n c, .int .i64 (p), .slice (A') n' c', .int .i64 ((q0 : Int)), .slice (A2) n2 c2, .int .i64 (z)] 30)).alloc (.cells #[.slice none 0 0, .int .i64 0, .slice none 0 0, .int .i64 0, .slice none 0 0, .int .i64 0] 30))).heap.size = w.heap.size + 2 := by simp
  have MEAS0 : Hid (∀ (A : Option Addr) (k l : Nat), lenV ((some (Value.slice A k l)).getD .nilIface) = k) := fun _ _ _ => rfl
  clear g hT hv hR2 h h' hap
  go_enter Tryd.func87, Tryd.ntmps87
  go_upto_region 1 with (fail)
  refine wp_renameW (fun w0 => Hid (Ints w0 M C A n D) ∧ Hid (Ints w0 M2 C2 A2 n2 R) ∧ Hid (Box w0 w.heap.size [.slice (A) n c, .int .i64 (p), .slice (A') n' c', .int .i64 ((q0 : Int)), .slice (A2) n2 c2, .int .i64 (z)]) ∧ Hid (Box w0 (w.heap.size + 1) [.slice none 0 0, .int .i64 0, .slice none 0 0, .int .i64 0, .slice none 0 0, .int .i64 0]) ∧ Hid (Below w.heap.size w w0) ∧ w0.heap.size = w.heap.size + 2) ⟨D0, G0, X0, R0, E0, s0⟩ ?_
  clear D0 G0 X0 R0 E0 s0
  rintro w0 ⟨D0, G0, X0, R0, E0, s0⟩
  go_wp2
  go_loopw [5] (fun v wr => ∃ (j : Nat) (A1 : Option Addr) (n1 c1 : Nat) (D1 : List Int) (p1 : Int) (A5 : Option Addr) (n5 c5 : Nat) (R1 : List Int) (M1 C1 M5 C5 : Nat), j + n5 ≤ R.length ∧ n1 ≤ c1 ∧ n5 ≤ c5 ∧ w.heap.size + 2 ≤ wr.heap.size ∧ C1 ≤ wr.heap.size ∧ C5 ≤ wr.heap.size ∧ ((A1 = A ∧ n1 = n ∧ M1 = M ∧ C1 = C) ∨ w.heap.size + 2 ≤ M1) ∧ ((A5 = A2 ∧ n5 = n2 ∧ M5 = M2 ∧ C5 = C2) ∨ w.heap.size + 2 ≤ M5) ∧ Hid (Apart A5 n5 A1 n1) ∧ Hid (Below w.heap.size w wr) ∧ Hid (Box wr w.heap.size [.slice (A1) n1 c1, .int .i64 (p1), .slice (A') n' c', .int .i64 ((((q0 + j : Nat)) : Int)), .slice (A5) n5 c5, .int .i64 (z)]) ∧ Hid (Box wr (w.heap.size + 1) [.slice none 0 0, .int .i64 0, .slice none 0 0, .int .i64 0, .slice none 0 0, .int .i64 0]) ∧ Hid (Ints wr M1 C1 A1 n1 D1) ∧ Hid (Ints wr M5 C5 A5 n5 R1) ∧ Hid (validD D1 p1 S ((q0 + j : Nat) : Int) = true) ∧ Hid (allB R1 0 255 = true) ∧ Hid (fuGo S (R.length - j) D1 p1 (q0 + j) R1 = T)) (fun _ wr => lenV ((wr.cell? ⟨w.heap.size, 4, none⟩).getD .nilIface))
  case atStart => exact ⟨0, A, n, c, D, p, A2, n2, c2, R, M, C, M2, C2, by omega, hnc, hn2, by omega, by omega, by omega, .inl ⟨rfl, rfl, rfl, rfl⟩, .inl ⟨rfl, rfl, rfl, rfl⟩, HAP, E0, X0, R0, D0, G0, HV, HR2, HT⟩
  case round =>
    clear D0 G0 X0 R0 E0 s0 HV HT HR2 HAP
    obtain ⟨j, A1, n1, c1, D1, p1, A5, n5, c5, R1, M1, C1, M5, C5, hj, hc1, hc5, hsz, hC1, hC5, hor1, hor5, hap, hb, hX, hR0, hD, hR5, hv1, hr1, hg⟩ := hrel
    have hl5 := hR5.out.len
    obtain ⟨q1, hq1⟩ : ∃ q1, q0 + j = q1 := ⟨_, rfl⟩
    have hq9 : q1 ≤ 916 := by omega
    rw [hq1] at hX hv1 hg
    have HQ1 := Lib.hid hq1
    clear hq1
    by_cases h0 : n5 = 0
    · subst h0
      obtain rfl : R1 = [] := List.eq_nil_of_length_eq_zero hl5.symm
      have HTT : Hid (T = ⟨D1, p1, q1, [], 0⟩) := by
        show T = _
        have h1 := hg.out
        rw [fuGo_nil] at h1
        exact h1.symm
      clear hg hl5
      have x0 := (hX.out.2 0 _ rfl).1; have x1 := (hX.out.2 1 _ rfl).1; have x2 := (hX.out.2 2 _ rfl).1; have x3 := (hX.out.2 3 _ rfl).1; have x4 := (hX.out.2 4 _ rfl).1; have x5 := (hX.out.2 5 _ rfl).1
      have r0 := (hR0.out.2 0 _ rfl).1; have r1 := (hR0.out.2 1 _ rfl).1; have r2 := (hR0.out.2 2 _ rfl).1; have r3 := (hR0.out.2 3 _ rfl).1; have r4 := (hR0.out.2 4 _ rfl).1; have r5 := (hR0.out.2 5 _ rfl).1
      have g0 := (hR0.out.2 0 _ rfl).2; have g1 := (hR0.out.2 1 _ rfl).2; have g2 := (hR0.out.2 2 _ rfl).2; have g3 := (hR0.out.2 3 _ rfl).2; have g4 := (hR0.out.2 4 _ rfl).2; have g5 := (hR0.out.2 5 _ rfl).2
      go_wp2
      refine bodyPost_ret (v := .tuple #[.agg #[.slice (A1) n1 c1, .int .i64 (p1), .slice (A') n' c', .int .i64 ((q1 : Int)), .slice (A5) 0 c5, .int .i64 (z)], .int .i64 0]) (by simp [results, Tryd.results87, go_sem, r0, r1, r2, r3, r4, r5, g0, g1, g2, g3, g4, g5]) rfl ?_
      rw [HTT.out]
      refine ⟨A1, n1, c1, A5, 0, c5, M1, C1, M5, C5, rfl, ⟨hc1, hc5⟩, ?_, ⟨?_, (Ints.nil _ _ _ 0 _).1⟩, ⟨by simpa using hC1, by simpa using hC5⟩, ?_, ?_, hap.out⟩
      · (repeat (with_reducible refine below_set ?_ (by omega) _))
        exact hb.out
      · have hf : w.heap.size + 1 < M1 ∨ C1 ≤ w.heap.size + 1 := by rcases hor1 with ⟨_, _, _, rfl⟩ | h <;> omega
        (repeat (with_reducible refine Ints.set_ ?_ (by omega) _))
        exact hD.out
      · rcases hor1 with h | h
        · exact .inl h
        · exact .inr (by omega)
      · rcases hor5 with h | h
        · exact .inl h
        · exact .inr (by omega)
    · have hgt : (0 : Int) < (n5 : Int) := by omega
      have hne : ¬ R1 = [] := by rintro rfl; simp at hl5; omega
      obtain ⟨_, _, _, ⟨hp0, hp1⟩, _⟩ := validD_iff.1 hv1.out
      have hcall := sWriteDevice0_any (a := q1) (c := c1) (c' := c') hD.out (HS.out.below hb.out hB') hR5.out hC1 (by omega) hC5 hc1 hv1.out (by omega) (by omega) (by omega) hc5
      unfold SWritePost at hcall
      obtain ⟨k, hk⟩ : ∃ k, mayAt S q1 = k := ⟨_, rfl⟩
      rw [hk] at hcall
      obtain ⟨mm, hmm⟩ : ∃ mm, wrM p1 k R1.length = mm := ⟨_, rfl⟩
      obtain ⟨st, hst⟩ : ∃ st, wrSt p1 k = st := ⟨_, rfl⟩
      have hmn : mm ≤ n5 ∧ p1 + (mm : Int) ≤ 120 := by
        by_cases e : wrSt p1 k = 0
        · have := wrM_ok (n := R1.length) e hp0 (by omega)
          omega
        · have := wrM_no (n := R1.length) e
          omega
      have hm1 : st = 0 → 1 ≤ mm := fun e => by have := wrM_ok (n := R1.length) (hst.trans e) hp0 (by omega); omega
      have HGO : Hid (st = 0 → fuGo S (R.length - (j + 1)) (wrL D1 p1.toNat (R1.take mm)) (p1 + (mm : Int)) (q1 + 1) (R1.drop mm) = T) := by
        show _ → _
        intro e
        have h1 := hg.out
        rw [show R.length - j = (R.length - (j + 1)) + 1 from by omega, fuGo, if_neg hne, hk, if_pos (hst.trans e), hmm] at h1
        exact h1
      have HVO : Hid (st = 0 → validD (wrL D1 p1.toNat (R1.take mm)) (p1 + (mm : Int)) S ((q1 + 1 : Nat) : Int) = true) := by
        show _ → _
        intro e
        have h1 := fu_valid (k := k) hv1.out hr1.out (hst.trans e) (by omega) (by omega)
        rw [hmm] at h1
        exact h1
      have HTN : Hid (¬ st = 0 → T = ⟨wrL D1 p1.toNat (R1.take mm), p1 + (mm : Int), q1 + 1, R1.drop mm, st⟩) := by
        show _ → _
        intro e
        have e2 : ¬ wrSt p1 k = 0 := by rw [hst]; exact e
        have hm0 : mm = 0 := by rw [← hmm]; exact wrM_no e2
        have h1 := hg.out
        rw [show R.length - j = (R.length - (j + 1)) + 1 from by omega, fuGo, if_neg hne, hk, if_neg e2, hst] at h1
        rw [hm0, wrL_none]
        simpa using h1.symm
      rw [hmm, hst] at hcall
      have HC := Lib.hid hcall
      have HR1 := Lib.hid hr1.out
      have HM1 := Lib.hid hm1
      clear hcall hmm hst hg hne hk hl5 hv1 hr1 hm1
      have XW := (hX.out.2 4 _ rfl).1
      have HXW := Lib.hid XW
      clear XW
      have x0 := (hX.out.2 0 _ rfl).1; have x1 := (hX.out.2 1 _ rfl).1; have x2 := (hX.out.2 2 _ rfl).1; have x3 := (hX.out.2 3 _ rfl).1; have x4 := (hX.out.2 4 _ rfl).1; have x5 := (hX.out.2 5 _ rfl).1
      go_wp2_with fail
      clear x0 x1 x2 x3 x4 x5
      refine HC.out.mono ?_
      rintro e w1 ⟨A6, n6, c6, rfl, hc6, hb1, hor⟩
      have hs1 := hb1.size
      have X1 := Lib.hid (hX.out.below hb1 (by omega))
      have R1b := Lib.hid (hR0.out.below hb1 (by omega))
      have E1 := Lib.hid (below_step hb1 hb.out (by omega))
      have I5 := Lib.hid (hR5.out.below hb1 (by omega))
      have D6 : ∃ M6 C6, ((A6 = A ∧ n6 = n ∧ M6 = M ∧ C6 = C) ∨ w.heap.size + 2 ≤ M6) ∧ C6 ≤ w1.heap.size ∧ Hid (Ints w1 M6 C6 A6 n6 (wrL D1 p1.toNat (R1.take mm))) := by
        rcases hor with ⟨rfl, rfl, hm0⟩ | h2
        · refine ⟨M1, C1, hor1, by omega, ?_⟩
          show Ints _ _ _ _ _ _
          rw [hm0, wrL_none]
          exact hD.out.below hb1 (by omega)
        · exact ⟨wr.heap.size, w1.heap.size, .inr (by omega), Nat.le_refl _, h2⟩
      obtain ⟨M6, C6, hor6, hC6, HD6⟩ := D6
      have hf6 : (w.heap.size < M6 ∨ C6 ≤ w.heap.size) ∧ (w.heap.size + 1 < M6 ∨ C6 ≤ w.heap.size + 1) := by rcases hor6 with ⟨_, _, _, rfl⟩ | h <;> omega
      have hf5 : (w.heap.size < M5 ∨ C5 ≤ w.heap.size) ∧ (w.heap.size + 1 < M5 ∨ C5 ≤ w.heap.size + 1) := by rcases hor5 with ⟨_, _, _, rfl⟩ | h <;> omega
      clear hb1 hor hX hR0 hb hD hR5 hap HC
      obtain ⟨pm, hpm⟩ : ∃ pm, p1 + (mm : Int) = pm := ⟨_, rfl⟩
      rw [hpm] at HGO HVO HTN hmn ⊢
      clear hpm
      go_upto_region 3 with (fail)
      refine wp_renameW (fun w2 => Hid (Box w2 w1.heap.size [.slice (A6) n6 c6, .int .i64 (pm), .slice (A') n' c', .int .i64 ((q1 : Int) + 1)]) ∧ Hid (Box w2 w.heap.size [.slice (A1) n1 c1, .int .i64 (p1), .slice (A') n' c', .int .i64 ((q1 : Int)), .slice (A5) n5 c5, .int .i64 (z)]) ∧ Hid (Box w2 (w.heap.size + 1) [.slice none 0 0, .int .i64 0, .slice none 0 0, .int .i64 0, .slice none 0 0, .int .i64 0]) ∧ Hid (Below w.heap.size w w2) ∧ Hid (Ints w2 M6 C6 A6 n6 (wrL D1 p1.toNat (R1.take mm))) ∧ Hid (Ints w2 M5 C5 A5 n5 R1) ∧ w1.heap.size < w2.heap.size) ⟨Box.new w1 28 [.slice (A6) n6 c6, .int .i64 (pm), .slice (A') n' c', .int .i64 ((q1 : Int) + 1)], X1.out.alloc _, R1b.out.alloc _, E1.out.alloc (by omega) _, HD6.out.alloc hC6 _, I5.out.alloc (by omega) _, by simp⟩ ?_
      clear X1 R1b E1 HD6 I5
      rintro w2 ⟨Y2, X2, R2, E2, HD2, I2, s2⟩
      have y0 := (Y2.out.2 0 _ rfl).1; have y1 := (Y2.out.2 1 _ rfl).1; have y2 := (Y2.out.2 2 _ rfl).1; have y3 := (Y2.out.2 3 _ rfl).1
      have x0 := (X2.out.2 0 _ rfl).1; have x1 := (X2.out.2 1 _ rfl).1; have x2 := (X2.out.2 2 _ rfl).1; have x3 := (X2.out.2 3 _ rfl).1; have x4 := (X2.out.2 4 _ rfl).1; have x5 := (X2.out.2 5 _ rfl).1
      have f0 := (X2.out.2 0 _ rfl).2; have f1 := (X2.out.2 1 _ rfl).2; have f2 := (X2.out.2 2 _ rfl).2; have f3 := (X2.out.2 3 _ rfl).2; have f4 := (X2.out.2 4 _ rfl).2; have f5 := (X2.out.2 5 _ rfl).2
      go_upto_region 4 with (fail)
      clear y0 y1 y2 y3
      clear x0 x1 x2 x3 x4 x5
      clear f0 f1 f2 f3 f4 f5
      refine wp_renameW (fun w3 => Hid (Box w3 w.heap.size [.slice (A6) n6 c6, .int .i64 (pm), .slice (A') n' c', .int .i64 ((q1 : Int) + 1), .slice (A5) n5 c5, .int .i64 (z)]) ∧ Hid (Box w3 (w.heap.size + 1) [.slice none 0 0, .int .i64 0, .slice none 0 0, .int .i64 0, .slice none 0 0, .int .i64 0]) ∧ Hid (Below w.heap.size w w3) ∧ Hid (Ints w3 M6 C6 A6 n6 (wrL D1 p1.toNat (R1.take mm))) ∧ Hid (Ints w3 M5 C5 A5 n5 R1) ∧ w1.heap.size < w3.heap.size) ⟨?_, ?_, ?_, ?_, ?_, ?_⟩ ?_
      · have hx := (((X2.out.put (i := 0) (by simp) (.slice A6 n6 c6)).put (i := 1) (by simp) (.int .i64 pm)).put (i := 2) (by simp) (.slice A' n' c')).put (i := 3) (by simp) (.int .i64 ((q1 : Int) + 1))
        show Box _ _ _
        simpa using hx
      · show Box _ _ _
        (repeat (with_reducible refine Box.set_ ?_ (by omega) _))
        exact R2.out
      · show Below _ _ _
        (repeat (with_reducible refine below_set ?_ (by omega) _))
        exact E2.out
      · show Ints _ _ _ _ _ _
        (repeat (with_reducible refine Ints.set_ ?_ (by omega) _))
        exact HD2.out
      · show Ints _ _ _ _ _ _
        (repeat (with_reducible refine Ints.set_ ?_ (by omega) _))
        exact I2.out
      · simp only [World.size_setCell]; omega
      clear Y2 X2 R2 E2 HD2 I2 s2
      rintro w3 ⟨X3, R3, E3, HD3, I3, s3⟩
      have hmc : (mm : Int) ≤ (c5 : Int) := by omega
      have hm0 : (0 : Int) ≤ (mm : Int) := by omega
      have SL : ∃ A7 c7, (c5 = mm ∧ A7 = A5 ∧ c7 = 0 ∨ ¬ c5 = mm ∧ A7 = (A5.map fun x => x.add mm) ∧ c7 = c5 - mm) ∧ Hid (Ints w3 M5 C5 A7 (n5 - mm) (R1.drop mm)) := by
        by_cases e : c5 = mm
        · exact ⟨A5, 0, .inl ⟨e, rfl, rfl⟩, I3.out.droppedW (by omega) A5⟩
        · exact ⟨_, _, .inr ⟨e, rfl, rfl⟩, I3.out.drop (by omega)⟩
      obtain ⟨A7, c7, hA7, HI7⟩ := SL
      have x0 := (X3.out.2 0 _ rfl).1; have x1 := (X3.out.2 1 _ rfl).1; have x2 := (X3.out.2 2 _ rfl).1; have x3 := (X3.out.2 3 _ rfl).1; have x4 := (X3.out.2 4 _ rfl).1; have x5 := (X3.out.2 5 _ rfl).1
      have f0 := (X3.out.2 0 _ rfl).2; have f1 := (X3.out.2 1 _ rfl).2; have f2 := (X3.out.2 2 _ rfl).2; have f3 := (X3.out.2 3 _ rfl).2; have f4 := (X3.out.2 4 _ rfl).2; have f5 := (X3.out.2 5 _ rfl).2
      rcases hA7 with ⟨hcm, rfl, rfl⟩ | ⟨hcm, rfl, rfl⟩
      · go_wp2_with fail
        clear x0 x1 x2 x3 x4 x5
        clear f0 f1 f2 f3 f4 f5
        refine (copyInts_any HI7.out (by omega) (by omega)).mono ?_
        rintro e w4 ⟨A8, n8, c8, rfl, hc8, hb4, hi4⟩
        have hs4 := hb4.size
        have hl8 := hi4.len
        rw [List.length_drop] at hl8
        have hn8 : n8 = n5 - mm := by have := I3.out.len; omega
        have X4 := Lib.hid (X3.out.below hb4 (by omega))
        have R4 := Lib.hid (R3.out.below hb4 (by omega))
        have E4 := Lib.hid (below_step hb4 E3.out (by omega))
        have HD4 := Lib.hid (HD3.out.below hb4 (by omega))
        have HI8 := Lib.hid hi4
        have HN8 := Lib.hid hn8
        have hn8le : n8 ≤ n5 - mm := by omega
        clear hb4 hi4 hl8 hn8 X3 R3 E3 HD3 I3 HI7
        have x0 := (X4.out.2 0 _ rfl).1; have x1 := (X4.out.2 1 _ rfl).1; have x2 := (X4.out.2 2 _ rfl).1; have x3 := (X4.out.2 3 _ rfl).1; have x4 := (X4.out.2 4 _ rfl).1; have x5 := (X4.out.2 5 _ rfl).1
        have f0 := (X4.out.2 0 _ rfl).2; have f1 := (X4.out.2 1 _ rfl).2; have f2 := (X4.out.2 2 _ rfl).2; have f3 := (X4.out.2 3 _ rfl).2; have f4 := (X4.out.2 4 _ rfl).2; have f5 := (X4.out.2 5 _ rfl).2
        go_upto_region 5 with (fail)
        clear x0 x1 x2 x3 x4 x5
        clear f0 f1 f2 f3 f4 f5
        refine wp_renameW (fun w5 => Hid (Box w5 w.heap.size [.slice (A6) n6 c6, .int .i64 (pm), .slice (A') n' c', .int .i64 ((q1 : Int) + 1), .slice (A8) n8 c8, .int .i64 (z)]) ∧ Hid (Box w5 (w.heap.size + 1) [.slice none 0 0, .int .i64 0, .slice none 0 0, .int .i64 0, .slice none 0 0, .int .i64 0]) ∧ Hid (Below w.heap.size w w5) ∧ Hid (Ints w5 M6 C6 A6 n6 (wrL D1 p1.toNat (R1.take mm))) ∧ Hid (Ints w5 w3.heap.size w4.heap.size A8 n8 (R1.drop mm)) ∧ w5.heap.size = w4.heap.size) ⟨?_, ?_, ?_, ?_, ?_, ?_⟩ ?_
        · have hx := X4.out.put (i := 4) (by simp) (.slice A8 n8 c8)
          show Box _ _ _
          simpa using hx
        · show Box _ _ _
          (repeat (with_reducible refine Box.set_ ?_ (by omega) _))
          exact R4.out
        · show Below _ _ _
          (repeat (with_reducible refine below_set ?_ (by omega) _))
          exact E4.out
        · show Ints _ _ _ _ _ _
          (repeat (with_reducible refine Ints.set_ ?_ (by omega) _))
          exact HD4.out
        · show Ints _ _ _ _ _ _
          (repeat (with_reducible refine Ints.set_ ?_ (by omega) _))
          exact HI8.out
        · simp only [World.size_setCell]
        clear X4 R4 E4 HD4 HI8
        rintro w5 ⟨X5, R5, E5, HD5, HI5, s5⟩
        have AP5 : Hid (Apart A8 n8 A6 n6) := by
          show Apart _ _ _ _
          rcases hor6 with ⟨_, _, _, rfl⟩ | h
          · exact (Apart.of_le HD5.out HI5.out (by omega)).symm
          · exact (Apart.of_le HD5.out HI5.out (by omega)).symm
        by_cases hst : st = 0
        · subst hst
          have HG2 := Lib.hid (HGO.out rfl)
          have HV2 := Lib.hid (HVO.out rfl)
          have HR2 := Lib.hid (allB_drop HR1.out mm)
          have hmm1 := HM1.out rfl
          clear HGO HVO HTN
          go_wp2
          go_roundw
          case rel =>
            refine ⟨j + 1, A6, n6, c6, _, pm, A8, n8, c8, _, M6, C6, w3.heap.size, w4.heap.size, by omega, hc6, hc8, by omega, by omega, by omega, hor6, .inr (by omega), AP5, E5, ?_, R5, HD5, HI5, ?_, HR2, ?_⟩
            · have hx := X5.out
              have hq := HQ1.out
              rw [show ((q0 + (j + 1) : Nat) : Int) = (q1 : Int) + 1 by omega]
              exact hx
            · have hq := HQ1.out
              rw [show q0 + (j + 1) = q1 + 1 by omega]
              exact HV2.out
            · have hq := HQ1.out
              rw [show q0 + (j + 1) = q1 + 1 by omega]
              exact HG2.out
          case measure =>
            have hx := (X5.out.2 4 _ rfl).1
            simp only [HXW.out, hx, Option.getD_some, lenV]
            omega
        · have HTT := Lib.hid (HTN.out hst)
          have hne : (st != 0) = true := by simpa using hst
          clear HGO HVO HTN hst HM1
          have x0 := (X5.out.2 0 _ rfl).1; have x1 := (X5.out.2 1 _ rfl).1; have x2 := (X5.out.2 2 _ rfl).1; have x3 := (X5.out.2 3 _ rfl).1; have x4 := (X5.out.2 4 _ rfl).1; have x5 := (X5.out.2 5 _ rfl).1
          have r0 := (R5.out.2 0 _ rfl).1; have r1 := (R5.out.2 1 _ rfl).1; have r2 := (R5.out.2 2 _ rfl).1; have r3 := (R5.out.2 3 _ rfl).1; have r4 := (R5.out.2 4 _ rfl).1; have r5 := (R5.out.2 5 _ rfl).1
          have g0 := (R5.out.2 0 _ rfl).2; have g1 := (R5.out.2 1 _ rfl).2; have g2 := (R5.out.2 2 _ rfl).2; have g3 := (R5.out.2 3 _ rfl).2; have g4 := (R5.out.2 4 _ rfl).2; have g5 := (R5.out.2 5 _ rfl).2
          go_wp2
          refine bodyPost_ret (v := .tuple #[.agg #[.slice (A6) n6 c6, .int .i64 (pm), .slice (A') n' c', .int .i64 ((q1 : Int) + 1), .slice (A8) n8 c8, .int .i64 (z)], .int .i64 st]) (by simp [results, Tryd.results87, go_sem, r0, r1, r2, r3, r4, r5, g0, g1, g2, g3, g4, g5]) rfl ?_
          rw [HTT.out]
          refine ⟨A6, n6, c6, A8, n8, c8, M6, C6, w3.heap.size, w4.heap.size, by show _ = Ending.returned (.tuple #[.agg #[.slice (A6) n6 c6, .int .i64 (pm), .slice (A') n' c', .int .i64 (((q1 + 1 : Nat) : Int)), .slice (A8) n8 c8, .int .i64 (z)], .int .i64 st]); rw [show ((q1 + 1 : Nat) : Int) = (q1 : Int) + 1 by omega], ⟨hc6, hc8⟩, ?_, ⟨?_, ?_⟩, ⟨by simp only [World.size_setCell]; omega, by simp only [World.size_setCell]; omega⟩, ?_, .inr (by omega), AP5.out⟩
          · (repeat (with_reducible refine below_set ?_ (by omega) _))
            exact E5.out
          · (repeat (with_reducible refine Ints.set_ ?_ (by omega) _))
            exact HD5.out
          · (repeat (with_reducible refine Ints.set_ ?_ (by omega) _))
            exact HI5.out
          · rcases hor6 with h | h
            · exact .inl h
            · exact .inr (by omega)
      · go_wp2_with fail
        clear x0 x1 x2 x3 x4 x5
        clear f0 f1 f2 f3 f4 f5
        refine (copyInts_any HI7.out (by omega) (by omega)).mono ?_
        rintro e w4 ⟨A8, n8, c8, rfl, hc8, hb4, hi4⟩
        have hs4 := hb4.size
        have hl8 := hi4.len
        rw [List.length_drop] at hl8
        have hn8 : n8 = n5 - mm := by have := I3.out.len; omega
        have X4 := Lib.hid (X3.out.below hb4 (by omega))
        have R4 := Lib.hid (R3.out.below hb4 (by omega))
        have E4 := Lib.hid (below_step hb4 E3.out (by omega))
        have HD4 := Lib.hid (HD3.out.below hb4 (by omega))
        have HI8 := Lib.hid hi4
        have HN8 := Lib.hid hn8
        have hn8le : n8 ≤ n5 - mm := by omega
        clear hb4 hi4 hl8 hn8 X3 R3 E3 HD3 I3 HI7
        have x0 := (X4.out.2 0 _ rfl).1; have x1 := (X4.out.2 1 _ rfl).1; have x2 := (X4.out.2 2 _ rfl).1; have x3 := (X4.out.2 3 _ rfl).1; have x4 := (X4.out.2 4 _ rfl).1; have x5 := (X4.out.2 5 _ rfl).1
        have f0 := (X4.out.2 0 _ rfl).2; have f1 := (X4.out.2 1 _ rfl).2; have f2 := (X4.out.2 2 _ rfl).2; have f3 := (X4.out.2 3 _ rfl).2; have f4 := (X4.out.2 4 _ rfl).2; have f5 := (X4.out.2 5 _ rfl).2
        go_upto_region 5 with (fail)
        clear x0 x1 x2 x3 x4 x5
        clear f0 f1 f2 f3 f4 f5
        refine wp_renameW (fun w5 => Hid (Box w5 w.heap.size [.slice (A6) n6 c6, .int .i64 (pm), .slice (A') n' c', .int .i64 ((q1 : Int) + 1), .slice (A8) n8 c8, .int .i64 (z)]) ∧ Hid (Box w5 (w.heap.size + 1) [.slice none 0 0, .int .i64 0, .slice none 0 0, .int .i64 0, .slice none 0 0, .int .i64 0]) ∧ Hid (Below w.heap.size w w5) ∧ Hid (Ints w5 M6 C6 A6 n6 (wrL D1 p1.toNat (R1.take mm))) ∧ Hid (Ints w5 w3.heap.size w4.heap.size A8 n8 (R1.drop mm)) ∧ w5.heap.size = w4.heap.size) ⟨?_, ?_, ?_, ?_, ?_, ?_⟩ ?_
        · have hx := X4.out.put (i := 4) (by simp) (.slice A8 n8 c8)
          show Box _ _ _
          simpa using hx
        · show Box _ _ _
          (repeat (with_reducible refine Box.set_ ?_ (by omega) _))
          exact R4.out
        · show Below _ _ _
          (repeat (with_reducible refine below_set ?_ (by omega) _))
          exact E4.out
        · show Ints _ _ _ _ _ _
          (repeat (with_reducible refine Ints.set_ ?_ (by omega) _))
          exact HD4.out
        · show Ints _ _ _ _ _ _
          (repeat (with_reducible refine Ints.set_ ?_ (by omega) _))
          exact HI8.out
        · simp only [World.size_setCell]
        clear X4 R4 E4 HD4 HI8
        rintro w5 ⟨X5, R5, E5, HD5, HI5, s5⟩
        have AP5 : Hid (Apart A8 n8 A6 n6) := by
          show Apart _ _ _ _
          rcases hor6 with ⟨_, _, _, rfl⟩ | h
          · exact (Apart.of_le HD5.out HI5.out (by omega)).symm
          · exact (Apart.of_le HD5.out HI5.out (by omega)).symm
        by_cases hst : st = 0
        · subst hst
          have HG2 := Lib.hid (HGO.out rfl)
          have HV2 := Lib.hid (HVO.out rfl)
          have HR2 := Lib.hid (allB_drop HR1.out mm)
          have hmm1 := HM1.out rfl
          clear HGO HVO HTN
          go_wp2
          go_roundw
          case rel =>
            refine ⟨j + 1, A6, n6, c6, _, pm, A8, n8, c8, _, M6, C6, w3.heap.size, w4.heap.size, by omega, hc6, hc8, by omega, by omega, by omega, hor6, .inr (by omega), AP5, E5, ?_, R5, HD5, HI5, ?_, HR2, ?_⟩
            · have hx := X5.out
              have hq := HQ1.out
              rw [show ((q0 + (j + 1) : Nat) : Int) = (q1 : Int) + 1 by omega]
              exact hx
            · have hq := HQ1.out
              rw [show q0 + (j + 1) = q1 + 1 by omega]
              exact HV2.out
            · have hq := HQ1.out
              rw [show q0 + (j + 1) = q1 + 1 by omega]
              exact HG2.out
          case measure =>
            have hx := (X5.out.2 4 _ rfl).1
            simp only [HXW.out, hx, Option.getD_some, lenV]
            omega
        · have HTT := Lib.hid (HTN.out hst)
          have hne : (st != 0) = true := by simpa using hst
          clear HGO HVO HTN hst HM1
          have x0 := (X5.out.2 0 _ rfl).1; have x1 := (X5.out.2 1 _ rfl).1; have x2 := (X5.out.2 2 _ rfl).1; have x3 := (X5.out.2 3 _ rfl).1; have x4 := (X5.out.2 4 _ rfl).1; have x5 := (X5.out.2 5 _ rfl).1
          have r0 := (R5.out.2 0 _ rfl).1; have r1 := (R5.out.2 1 _ rfl).1; have r2 := (R5.out.2 2 _ rfl).1; have r3 := (R5.out.2 3 _ rfl).1; have r4 := (R5.out.2 4 _ rfl).1; have r5 := (R5.out.2 5 _ rfl).1
          have g0 := (R5.out.2 0 _ rfl).2; have g1 := (R5.out.2 1 _ rfl).2; have g2 := (R5.out.2 2 _ rfl).2; have g3 := (R5.out.2 3 _ rfl).2; have g4 := (R5.out.2 4 _ rfl).2; have g5 := (R5.out.2 5 _ rfl).2
          go_wp2
          refine bodyPost_ret (v := .tuple #[.agg #[.slice (A6) n6 c6, .int .i64 (pm), .slice (A') n' c', .int .i64 ((q1 : Int) + 1), .slice (A8) n8 c8, .int .i64 (z)], .int .i64 st]) (by simp [results, Tryd.results87, go_sem, r0, r1, r2, r3, r4, r5, g0, g1, g2, g3, g4, g5]) rfl ?_
          rw [HTT.out]
          refine ⟨A6, n6, c6, A8, n8, c8, M6, C6, w3.heap.size, w4.heap.size, by show _ = Ending.returned (.tuple #[.agg #[.slice (A6) n6 c6, .int .i64 (pm), .slice (A') n' c', .int .i64 (((q1 + 1 : Nat) : Int)), .slice (A8) n8 c8, .int .i64 (z)], .int .i64 st]); rw [show ((q1 + 1 : Nat) : Int) = (q1 : Int) + 1 by omega], ⟨hc6, hc8⟩, ?_, ⟨?_, ?_⟩, ⟨by simp only [World.size_setCell]; omega, by simp only [World.size_setCell]; omega⟩, ?_, .inr (by omega), AP5.out⟩
          · (repeat (with_reducible refine below_set ?_ (by omega) _))
            exact E5.out
          · (repeat (with_reducible refine Ints.set_ ?_ (by omega) _))
            exact HD5.out
          · (repeat (with_reducible refine Ints.set_ ?_ (by omega) _))
            exact HI5.out
          · rcases hor6 with h | h
            · exact .inl h
            · exact .inr (by omega)
end Go.Proofs.YtdiebkaedjlckaaDoor
