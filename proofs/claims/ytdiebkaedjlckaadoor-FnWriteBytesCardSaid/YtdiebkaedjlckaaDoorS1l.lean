/- Contracts of the model's writeDevice and WriteDevice. -/
import Derived.Test.YtdiebkaedjlckaaDoorS1k
import Derived.Test.YtdiebkaedjlckaaDoorC1l
namespace Go.Proofs.YtdiebkaedjlckaaDoor
open Go.ChangeShapes Go.WideShapes Go.ChangeAt Go.RowKit
set_option linter.unusedSimpArgs false
set_option linter.unusedVariables false

def SWritePost (A : Option Addr) (n : Nat) (A' : Option Addr) (n' c' : Nat) (p : Int) (a : Nat) (D : List Int) (k : Int) (L1 : List Int) (w : World) (e : Ending) (w' : World) : Prop :=
  ∃ A2 n2 c2, e = .returned (.tuple #[.agg #[.slice (A2) n2 c2, .int .i64 (p + ((wrM p k L1.length : Nat) : Int)), .slice (A') n' c', .int .i64 ((a : Int) + 1)], .int .i64 ((wrM p k L1.length : Nat) : Int), .int .i64 (wrSt p k)]) ∧ n2 ≤ c2 ∧ Below w.heap.size w w' ∧
    ((A2 = A ∧ n2 = n ∧ wrM p k L1.length = 0) ∨ Ints w' w.heap.size w'.heap.size A2 n2 (wrL D p.toNat (L1.take (wrM p k L1.length))))

set_option maxHeartbeats 4000000 in
theorem sWriteDevice0_any {A A' A1 : Option Addr} {n c n' c' n1 c1 a : Nat} {D S L1 : List Int} {p : Int} {w : World} {L B L' B' M C : Nat} (h : Ints w L B A n D) (h' : Ints w L' B' A' n' S) (g : Ints w M C A1 n1 L1)
    (hB : B ≤ w.heap.size) (hB' : B' ≤ w.heap.size) (hC : C ≤ w.heap.size) (hnc : n ≤ c) (hv : validD D p S a = true) (ha : a < 1000) (hn1 : 1 ≤ n1) (hn2 : n1 ≤ 60) (hc1 : n1 ≤ c1) :
    Calls Tryd.prog 117 #[.agg #[.slice (A) n c, .int .i64 (p), .slice (A') n' c', .int .i64 ((a : Int))], .slice A1 n1 c1] w (SWritePost A n A' n' c' p a D (mayAt S a) L1 w) := by
  obtain ⟨hbD, hS12, hSall, ⟨hp0, hp1⟩, _⟩ := validD_iff.1 hv
  have hD60 := bytesB_le hbD
  have HL := Lib.hid h.len
  have HG := Lib.hid g.len
  have hn60 : n ≤ 60 := by rw [h.len]; exact hD60
  have hki := mayAt_in hSall a
  have H1 := Lib.hid (fun o => (h.alloc hB (.cells #[.slice (A) n c, .int .i64 (p), .slice (A') n' c', .int .i64 ((a : Int))] 28)).alloc (by first | omega | (simp; omega) | (simp; done)) o)
  have H2 := Lib.hid (fun o => (h'.alloc hB' (.cells #[.slice (A) n c, .int .i64 (p), .slice (A') n' c', .int .i64 ((a : Int))] 28)).alloc (by first | omega | (simp; omega) | (simp; done)) o)
  have G1 := Lib.hid (fun o => (g.alloc hC (.cells #[.slice (A) n c, .int .i64 (p), .slice (A') n' c', .int .i64 ((a : Int))] 28)).alloc (by first | omega | (simp; omega) | (simp; done)) o)
  have X0 := Lib.hid ((Box.new w 28 [.slice (A) n c, .int .i64 (p), .slice (A') n' c', .int .i64 ((a : Int))]).alloc (.cells #[.slice none 0 0, .int .i64 0, .slice none 0 0, .int .i64 0] 28))
  have R0 := Lib.hid (Box.new (w.alloc (.cells #[.slice (A) n c, .int .i64 (p), .slice (A') n' c', .int .i64 ((a : Int))] 28)) 28 [.slice none 0 0, .int .i64 0, .slice none 0 0, .int .i64 0])
  (try simp only [World.size_alloc, World.size_setCell, World.size_drew] at R0)
  have hcall := fun o => allowed_any (A := A) (n := n) (c := c) (c' := c') (a := a) (p := p) (H2.out o) (by first | omega | (simp; omega) | (simp; done))
  obtain ⟨k, hk⟩ : ∃ k, mayAt S a = k := ⟨_, rfl⟩
  rw [hk] at hki hcall ⊢
  have HC := Lib.hid hcall
  clear hk hcall hbD hS12 hSall hv
  obtain ⟨q, rfl⟩ := Int.eq_ofNat_of_zero_le hp0
  go_enter Tryd.func117, Tryd.ntmps117
  go_wp2_with fail
  refine (HC.out _).mono ?_
  rintro e w1 ⟨rfl, hb1⟩
  (try simp only [World.size_alloc, World.size_setCell, World.size_drew] at hb1)
  have HB1 := Lib.hid hb1
  clear hb1
  have s1 := HB1.out.size
  (try simp only [World.size_alloc, World.size_setCell, World.size_drew] at s1)
  have X1 := Lib.hid (X0.out.below HB1.out (by omega))
  have R1 := Lib.hid (R0.out.below HB1.out (by omega))
  have I1 := Lib.hid (((H1.out _).below HB1.out (by omega)).set_ (b := w.heap.size) (o := 3) (by omega) (.int .i64 ((a : Int) + 1)))
  have G2 := Lib.hid (((G1.out _).below HB1.out (by omega)).set_ (b := w.heap.size) (o := 3) (by omega) (.int .i64 ((a : Int) + 1)))
  have x0 := (X1.out.2 0 _ rfl).1; have x1 := (X1.out.2 1 _ rfl).1; have x2 := (X1.out.2 2 _ rfl).1; have x3 := (X1.out.2 3 _ rfl).1
  have t3 := (X1.out.2 3 _ rfl).2
  clear R0 X0 H1 H2 G1 HC
  go_upto_region 3 with (fail)
  have X2 := Lib.hid (X1.out.put (i := 3) (by simp) (.int .i64 ((a : Int) + 1)))
  have R2 := Lib.hid (R1.out.set_ (b' := w.heap.size) (o := 3) (by omega) (.int .i64 ((a : Int) + 1)))
  have B2 : Hid (Below w.heap.size w (w1.setCell ⟨w.heap.size, 3, none⟩ (.int .i64 ((a : Int) + 1)))) := below_set (below_step HB1.out (by go_grown) (by first | omega | (simp; omega) | (simp; done))) (Nat.le_refl _) _
  have z2 : w.heap.size + 1 + 1 ≤ (w1.setCell ⟨w.heap.size, 3, none⟩ (.int .i64 ((a : Int) + 1))).heap.size := by simp; omega
  clear x0 x1 x2 x3 t3
  generalize w1.setCell ⟨w.heap.size, 3, none⟩ (.int .i64 ((a : Int) + 1)) = w2 at *
  have g0 := X2.out.lt
  have g1 := R2.out.lt
  clear X1 R1 HB1 s1
  have x0 := (X2.out.2 0 _ rfl).1; have x1 := (X2.out.2 1 _ rfl).1; have x2 := (X2.out.2 2 _ rfl).1; have x3 := (X2.out.2 3 _ rfl).1
  by_cases k0 : k < 1 ∨ q = 60
  · have r0 := (R2.out.2 0 _ rfl).1; have r1 := (R2.out.2 1 _ rfl).1; have r2 := (R2.out.2 2 _ rfl).1; have r3 := (R2.out.2 3 _ rfl).1
    have f0 := (R2.out.2 0 _ rfl).2; have f1 := (R2.out.2 1 _ rfl).2; have f2 := (R2.out.2 2 _ rfl).2; have f3 := (R2.out.2 3 _ rfl).2
    have hM : wrM q k L1.length = 0 := by
      unfold wrM
      split
      · rfl
      · have : q = 60 := by omega
        subst this
        simp
    have HM := Lib.hid hM
    clear hM
    have hcase : (k < 0 ∧ wrSt q k = 3) ∨ (k = 0 ∧ wrSt q k = 2) ∨ (0 < k ∧ q = 60 ∧ wrSt q k = 4) := by
      unfold wrSt
      rcases Int.lt_trichotomy k 0 with h1 | h1 | h1
      · exact .inl ⟨h1, by rw [if_pos h1]⟩
      · exact .inr (.inl ⟨h1, by rw [if_neg (by omega), if_pos h1]⟩)
      · exact .inr (.inr ⟨h1, by omega, by rw [if_neg (by omega), if_neg (by omega), if_pos (by omega)]⟩)
    have fin : ∀ st : Int, Hid (wrSt q k = st) → ∀ w3 : World, Below w.heap.size w w3 → SWritePost A n A' n' c' q a D k L1 w (.returned (.tuple #[.agg #[.slice (A) n c, .int .i64 ((q : Int)), .slice (A') n' c', .int .i64 ((a : Int) + 1)], .int .i64 0, .int .i64 st])) w3 := by
      intro st hst w3 hb
      refine ⟨A, n, c, ?_, hnc, hb, Or.inl ⟨rfl, rfl, HM.out⟩⟩
      rw [HM.out, hst.out]
      simp
    have FIN := Lib.hid fin
    clear fin k0
    rcases hcase with ⟨h1, h2⟩ | ⟨rfl, h2⟩ | ⟨h1, rfl, h2⟩
    · have HS := Lib.hid h2
      clear h2
      go_wp2
      refine bodyPost_ret (v := .tuple #[.agg #[.slice (A) n c, .int .i64 ((q : Int)), .slice (A') n' c', .int .i64 ((a : Int) + 1)], .int .i64 0, .int .i64 3]) (by simp [results, Tryd.results117, go_sem, r0, r1, r2, r3, f0, f1, f2, f3, g1]) rfl (FIN.out _ HS.out _ ?_)
      (repeat (with_reducible refine below_set ?_ (by omega) _))
      exact B2.out
    · have HS := Lib.hid h2
      clear h2
      go_wp2
      refine bodyPost_ret (v := .tuple #[.agg #[.slice (A) n c, .int .i64 ((q : Int)), .slice (A') n' c', .int .i64 ((a : Int) + 1)], .int .i64 0, .int .i64 2]) (by simp [results, Tryd.results117, go_sem, r0, r1, r2, r3, f0, f1, f2, f3, g1]) rfl (FIN.out _ HS.out _ ?_)
      (repeat (with_reducible refine below_set ?_ (by omega) _))
      exact B2.out
    · have HS := Lib.hid h2
      have hkz : (k == 0) = false := by simp; omega
      clear h2
      go_wp2
      refine bodyPost_ret (v := .tuple #[.agg #[.slice (A) n c, .int .i64 (((60 : Nat) : Int)), .slice (A') n' c', .int .i64 ((a : Int) + 1)], .int .i64 0, .int .i64 4]) (by simp [results, Tryd.results117, go_sem, r0, r1, r2, r3, f0, f1, f2, f3, g1]) rfl (FIN.out _ HS.out _ ?_)
      (repeat (with_reducible refine below_set ?_ (by omega) _))
      exact B2.out
  · have HS0 : Hid (wrSt q k = 0) := by
      show _ = _
      unfold wrSt
      rw [if_neg (show ¬ k < 0 by omega), if_neg (show ¬ k = 0 by omega), if_neg (show ¬ (60 : Int) ≤ (q : Int) by omega)]
    have hq1 : (q : Int) < 60 := by omega
    have hkz : (k == 0) = false := by simp; omega
    obtain ⟨j, rfl⟩ := Int.eq_ofNat_of_zero_le (show 0 ≤ k by omega)
    have hk1 : ¬ (j : Int) < 1 := by omega
    have hj0 : (0 : Int) ≤ (j : Int) := by omega
    obtain ⟨r, hr⟩ : ∃ r, r = 60 - q := ⟨_, rfl⟩
    have hwr : IntKind.i64.wrap (60 - (q : Int)) = (r : Int) := by rw [IntWalk.i64_in _ (by omega)]; omega
    have HMM : Hid (wrM q j L1.length = min (min n1 j) r) := by
      show _ = _
      unfold wrM
      rw [if_neg hk1, ← HG.out, hr]
      rfl
    have hcase : ∃ T : Nat, min (min n1 j) r = T ∧ 1 ≤ T ∧ T ≤ n1 ∧ T ≤ r ∧ (((j : Int) ≤ (n1 : Int) ∧ (j : Int) ≤ (r : Int) ∧ T = j) ∨ ((j : Int) ≤ (n1 : Int) ∧ (r : Int) < (j : Int) ∧ T = r) ∨ ((n1 : Int) < (j : Int) ∧ (n1 : Int) ≤ (r : Int) ∧ T = n1) ∨ ((n1 : Int) < (j : Int) ∧ (r : Int) < (n1 : Int) ∧ T = r)) := by
      refine ⟨_, rfl, ?_⟩
      omega
    obtain ⟨T, hTe, hT1, hT2, hT3, hcase⟩ := hcase
    rw [hTe] at HMM
    clear hTe k0
    have hwq : IntKind.i64.wrap ((q : Int) + (T : Int)) = (q : Int) + (T : Int) := IntWalk.i64_in _ (by omega)
    have hT0 : (0 : Int) ≤ (T : Int) := by omega
    have hTc : (T : Int) ≤ (c1 : Int) := by omega
    clear hr
    have G3 := Lib.hid (G2.out.take hT2)
    have t0 := (X2.out.2 0 _ rfl).2; have t1 := (X2.out.2 1 _ rfl).2; have t2 := (X2.out.2 2 _ rfl).2; have t3 := (X2.out.2 3 _ rfl).2
    rcases hcase with ⟨d1, d2, hTe⟩ | ⟨d1, d2, hTe⟩ | ⟨d1, d2, hTe⟩ | ⟨d1, d2, hTe⟩
    all_goals
      subst hTe
      go_wp2_with fail
      go_region_law ((go_simp; go_at_call 138; refine (overlaid_any (a := q) (w := w2.drew) I1.out.drew G3.out.drew (by simp; omega) (by simp; omega) (by omega) (by omega) hT1 (by omega)).mono ?_; rintro e w3 ⟨A2, n2, c2, rfl, hc2, hb3, hi3⟩; (try simp only [World.size_alloc, World.size_setCell, World.size_drew] at hb3 hi3); have HB3 := Lib.hid hb3; have HI3 := Lib.hid hi3; have s3 := hb3.size; (try simp only [World.size_alloc, World.size_setCell, World.size_drew] at s3); clear hi3 hb3; have X3 := Lib.hid (X2.out.drew.below HB3.out (by omega)); have R3 := Lib.hid (R2.out.drew.below HB3.out (by omega)); clear x0 x1 x2 x3; clear t0 t1 t2 t3; have x0 := (X3.out.2 0 _ rfl).1; have x1 := (X3.out.2 1 _ rfl).1; have x2 := (X3.out.2 2 _ rfl).1; have x3 := (X3.out.2 3 _ rfl).1; have t0 := (X3.out.2 0 _ rfl).2; have t1 := (X3.out.2 1 _ rfl).2; have t2 := (X3.out.2 2 _ rfl).2; have t3 := (X3.out.2 3 _ rfl).2; have r0 := (R3.out.2 0 _ rfl).1; have r1 := (R3.out.2 1 _ rfl).1; have r2 := (R3.out.2 2 _ rfl).1; have r3 := (R3.out.2 3 _ rfl).1; have f0 := (R3.out.2 0 _ rfl).2; have f1 := (R3.out.2 1 _ rfl).2; have f2 := (R3.out.2 2 _ rfl).2; have f3 := (R3.out.2 3 _ rfl).2))
      all_goals
        go_wp2
        refine bodyPost_ret (v := .tuple #[.agg #[.slice (A2) n2 c2, .int .i64 ((q : Int) + (T : Int)), .slice (A') n' c', .int .i64 ((a : Int) + 1)], .int .i64 (T : Int), .int .i64 0]) (by simp [results, Tryd.results117, go_sem, x0, x1, x2, x3, r0, r1, r2, r3, f0, f1, f2, f3, g1]) rfl ?_
        refine ⟨A2, n2, c2, ?_, hc2, ?_, Or.inr ?_⟩
        · rw [HMM.out, HS0.out]
        · have e3 : Below w.heap.size w w3 := below_step HB3.out B2.out.drew (by omega)
          (repeat (with_reducible refine below_set ?_ (by omega) _))
          exact e3
        · rw [HMM.out, Int.toNat_natCast]
          simp only [World.size_setCell]
          refine Ints.more (lo := w2.heap.size) (hi := w3.heap.size) ?_ (by omega) (by omega)
          (repeat (with_reducible refine Ints.set_ ?_ (by omega) _))
          exact HI3.out

/-! The two, in the form that the laws' texts take. -/
theorem wrOut_le (D : List Int) (p : Int) (S : List Int) (q : Int) (L : List Int) : (wrOut D p S q L).1.d.length ≤ 120 ∧ (wrOut D p S q L).1.s.length ≤ 60 := by
  unfold wrOut
  split
  · rename_i hg
    obtain ⟨hv, _, hL, hbL⟩ := wrGood_iff.1 hg
    obtain ⟨hb, hs, _, hp, _⟩ := validD_iff.1 hv
    have h1 := bytesB_le hb
    have h2 := bytesB_le hbL
    refine ⟨?_, by show S.length ≤ 60; omega⟩
    show (wrL D p.toNat (L.take (wrM p (mayAt S q.toNat) L.length))).length ≤ 120
    by_cases h0 : (L.take (wrM p (mayAt S q.toNat) L.length)).length = 0
    · rw [List.eq_nil_of_length_eq_zero h0]
      simp [wrL]
      omega
    · rw [wrL_len (by omega), List.length_take]
      omega
  · exact ⟨by decide, by decide⟩
end Go.Proofs.YtdiebkaedjlckaaDoor
