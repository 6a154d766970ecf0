/- Contracts of the model's ReadDevice. -/
import Derived.Test.YtdiebkaedjlckaaDoorS1b
import Derived.Deep.DeepCutAuto
namespace Go.Proofs.YtdiebkaedjlckaaDoor
open Go.ChangeShapes Go.WideShapes Go.ChangeAt Go.RowKit
set_option linter.unusedSimpArgs false
set_option linter.unusedVariables false

def IntB (k : Int) (w : World) (e : Ending) (w' : World) : Prop := e = .returned (.int .i64 k) ∧ Below w.heap.size w w'

set_option maxHeartbeats 1000000 in
theorem allowed_any {A A' : Option Addr} {n c n' c' a : Nat} {S : List Int} {p : Int} {w : World} {L' B' : Nat} (h' : Ints w L' B' A' n' S) (hB' : B' ≤ w.heap.size) :
    Calls Tryd.prog 137 #[.agg #[.slice (A) n c, .int .i64 (p), .slice (A') n' c', .int .i64 ((a : Int))]] w (IntB (mayAt S a) w) := by
  have hm := h'.max
  have HL := Lib.hid h'.len
  have H2 := Lib.hid (h'.alloc hB' (.cells #[.slice (A) n c, .int .i64 (p), .slice (A') n' c', .int .i64 ((a : Int))] 28))
  by_cases hlt : a < n'
  · obtain ⟨b', o', k, rfl, _, hc, hk⟩ := H2.out.at_ hlt
    have HK : Hid (mayAt S a = k) := mayAt_some hk.out
    rw [HK.out]
    have hlti : (a : Int) < (n' : Int) := by omega
    have h0 : (0 : Int) ≤ (a : Int) := by omega
    go_enter Tryd.func137, Tryd.ntmps137
    go_wp2
    go_ret
    exact ⟨rfl, by go_grown⟩
  · have hlti : (n' : Int) ≤ (a : Int) := by omega
    have HK : Hid (mayAt S a = 60) := mayAt_none (by have := HL.out; omega)
    rw [HK.out]
    go_enter Tryd.func137, Tryd.ntmps137
    go_wp2
    go_ret
    exact ⟨rfl, by go_grown⟩

/-- A device with the same memory, and ints in new memory. -/
def SReadPost (A : Option Addr) (n c : Nat) (p : Int) (A' : Option Addr) (n' c' a : Nat) (D : List Int) (k N : Int) (w : World) (e : Ending) (w' : World) : Prop :=
  ∃ A1 n1 c1, e = .returned (.tuple #[.agg #[.slice (A) n c, .int .i64 (p + ((rdL D p k N).length : Int)), .slice (A') n' c', .int .i64 ((a : Int) + 1)], .slice A1 n1 c1, .int .i64 (rdSt D p k)]) ∧ n1 ≤ c1 ∧ Below w.heap.size w w' ∧ Ints w' w.heap.size w'.heap.size A1 n1 (rdL D p k N)

set_option maxHeartbeats 2000000 in
theorem sReadDevice0_any {A A' : Option Addr} {n c n' c' a : Nat} {D S : List Int} {p N : Int} {w : World} {L B L' B' : Nat} (h : Ints w L B A n D) (h' : Ints w L' B' A' n' S)
    (hB : B ≤ w.heap.size) (hB' : B' ≤ w.heap.size) (hnc : n ≤ c) (hv : validD D p S a = true) (ha : a < 1000) (hN : 1 ≤ N) (hN' : N ≤ 60) :
    Calls Tryd.prog 139 #[.agg #[.slice (A) n c, .int .i64 (p), .slice (A') n' c', .int .i64 ((a : Int))], .int .i64 N] w (SReadPost A n c p A' n' c' a D (mayAt S a) N w) := by
  obtain ⟨hbD, hS12, hSall, ⟨hp0, hp1⟩, _⟩ := validD_iff.1 hv
  have hD60 := bytesB_le hbD
  have HL := Lib.hid h.len
  have hn60 : n ≤ 60 := by rw [h.len]; exact hD60
  have hki := mayAt_in hSall a
  have H1 := Lib.hid (fun o => (h.alloc hB (.cells #[.slice (A) n c, .int .i64 (p), .slice (A') n' c', .int .i64 ((a : Int))] 28)).alloc (by first | omega | (simp; omega) | (simp; done)) o)
  have H2 := Lib.hid (fun o => (h'.alloc hB' (.cells #[.slice (A) n c, .int .i64 (p), .slice (A') n' c', .int .i64 ((a : Int))] 28)).alloc (by first | omega | (simp; omega) | (simp; done)) o)
  have X0 := Lib.hid ((Box.new w 28 [.slice (A) n c, .int .i64 (p), .slice (A') n' c', .int .i64 ((a : Int))]).alloc (.cells #[.slice none 0 0, .int .i64 0, .slice none 0 0, .int .i64 0] 28))
  have R0 := Lib.hid (Box.new (w.alloc (.cells #[.slice (A) n c, .int .i64 (p), .slice (A') n' c', .int .i64 ((a : Int))] 28)) 28 [.slice none 0 0, .int .i64 0, .slice none 0 0, .int .i64 0])
  (try simp only [World.size_alloc, World.size_setCell, World.size_drew] at R0)
  have hcall := fun o => allowed_any (A := A) (n := n) (c := c) (c' := c') (a := a) (p := p) (H2.out o) (by first | omega | (simp; omega) | (simp; done))
  obtain ⟨k, hk⟩ : ∃ k, mayAt S a = k := ⟨_, rfl⟩
  rw [hk] at hki hcall ⊢
  have HC := Lib.hid hcall
  clear hk hcall hbD hS12 hSall hv
  obtain ⟨q, rfl⟩ := Int.eq_ofNat_of_zero_le hp0
  go_enter Tryd.func139, Tryd.ntmps139
  go_wp2_with fail
  refine (HC.out _).mono ?_
  rintro e w1 ⟨rfl, hb1⟩
  (try simp only [World.size_alloc, World.size_setCell, World.size_drew] at hb1)
  have HB1 := Lib.hid hb1
  clear hb1
  have s1 := HB1.out.size
  (try simp only [World.size_alloc, World.size_setCell, World.size_drew] at s1)
  have X1 := Lib.hid (X0.out.below HB1.out (by omega))
  have R1 := Lib.hid (R0.out.below HB1.out (by omega))
  have I1 := Lib.hid (((H1.out _).below HB1.out (by omega)).set_ (b := w.heap.size) (o := 3) (by omega) (.int .i64 ((a : Int) + 1)))
  have x0 := (X1.out.2 0 _ rfl).1; have x1 := (X1.out.2 1 _ rfl).1; have x2 := (X1.out.2 2 _ rfl).1; have x3 := (X1.out.2 3 _ rfl).1
  have t3 := (X1.out.2 3 _ rfl).2
  clear R0 X0 H1 H2 HC
  go_upto_region 3 with (fail)
  have X2 := Lib.hid (X1.out.put (i := 3) (by simp) (.int .i64 ((a : Int) + 1)))
  have R2 := Lib.hid (R1.out.set_ (b' := w.heap.size) (o := 3) (by omega) (.int .i64 ((a : Int) + 1)))
  have B2 : Hid (Below w.heap.size w (w1.setCell ⟨w.heap.size, 3, none⟩ (.int .i64 ((a : Int) + 1)))) := below_set (below_step HB1.out (by go_grown) (by first | omega | (simp; omega) | (simp; done))) (Nat.le_refl _) _
  have z2 : w.heap.size + 1 + 1 ≤ (w1.setCell ⟨w.heap.size, 3, none⟩ (.int .i64 ((a : Int) + 1))).heap.size := by simp; omega
  clear x0 x1 x2 x3 t3
  generalize w1.setCell ⟨w.heap.size, 3, none⟩ (.int .i64 ((a : Int) + 1)) = w2 at *
  have g0 := X2.out.lt
  have g1 := R2.out.lt
  clear X1 R1 HB1 s1
  by_cases k0 : k < 1 ∨ D.length ≤ q
  · have hL : rdL D q k N = [] := by
      unfold rdL
      split
      · rfl
      · rw [Int.toNat_natCast, List.drop_of_length_le (by omega)]; simp
    have HL0 := Lib.hid hL
    clear hL
    have x0 := (X2.out.2 0 _ rfl).1; have x1 := (X2.out.2 1 _ rfl).1; have x2 := (X2.out.2 2 _ rfl).1; have x3 := (X2.out.2 3 _ rfl).1
    have r0 := (R2.out.2 0 _ rfl).1; have r1 := (R2.out.2 1 _ rfl).1; have r2 := (R2.out.2 2 _ rfl).1; have r3 := (R2.out.2 3 _ rfl).1
    have f0 := (R2.out.2 0 _ rfl).2; have f1 := (R2.out.2 1 _ rfl).2; have f2 := (R2.out.2 2 _ rfl).2; have f3 := (R2.out.2 3 _ rfl).2
    have hcase : (k < 0 ∧ rdSt D q k = 3) ∨ (k = 0 ∧ rdSt D q k = 2) ∨ (0 < k ∧ D.length ≤ q ∧ rdSt D q k = 1) := by
      unfold rdSt
      rcases Int.lt_trichotomy k 0 with h1 | h1 | h1
      · exact .inl ⟨h1, by rw [if_pos h1]⟩
      · exact .inr (.inl ⟨h1, by rw [if_neg (by omega), if_pos h1]⟩)
      · exact .inr (.inr ⟨h1, by omega, by rw [if_neg (by omega), if_neg (by omega), if_pos (by omega)]⟩)
    have fin : ∀ st : Int, Hid (rdSt D q k = st) → ∀ w3 : World, Below w.heap.size w w3 → SReadPost A n c q A' n' c' a D k N w (.returned (.tuple #[.agg #[.slice (A) n c, .int .i64 ((q : Int)), .slice (A') n' c', .int .i64 ((a : Int) + 1)], .slice (some ⟨w2.heap.size, 0, none⟩) 0 0, .int .i64 st])) w3 := by
      intro st hst w3 hb
      refine ⟨some ⟨w2.heap.size, 0, none⟩, 0, 0, ?_, Nat.le_refl _, hb, ?_⟩
      · rw [HL0.out, hst.out]; simp
      · rw [HL0.out]; exact (Ints.nil _ _ _ 0 _).1
    have FIN := Lib.hid fin
    clear fin k0
    rcases hcase with ⟨h1, h2⟩ | ⟨rfl, h2⟩ | ⟨h1, h3, h2⟩
    · have HS := Lib.hid h2
      clear h2
      go_wp2
      refine bodyPost_ret (v := .tuple #[.agg #[.slice (A) n c, .int .i64 ((q : Int)), .slice (A') n' c', .int .i64 ((a : Int) + 1)], .slice (some ⟨w2.heap.size, 0, none⟩) 0 0, .int .i64 3]) (by simp [results, Tryd.results139, go_sem, r0, r1, r2, r3, f0, f1, f2, f3, g1]) rfl (FIN.out _ HS.out _ ?_)
      refine Below.alloc ?_ (by simp; omega) _
      (repeat (with_reducible refine below_set ?_ (by omega) _))
      exact B2.out
    · have HS := Lib.hid h2
      clear h2
      go_wp2
      refine bodyPost_ret (v := .tuple #[.agg #[.slice (A) n c, .int .i64 ((q : Int)), .slice (A') n' c', .int .i64 ((a : Int) + 1)], .slice (some ⟨w2.heap.size, 0, none⟩) 0 0, .int .i64 2]) (by simp [results, Tryd.results139, go_sem, r0, r1, r2, r3, f0, f1, f2, f3, g1]) rfl (FIN.out _ HS.out _ ?_)
      refine Below.alloc ?_ (by simp; omega) _
      (repeat (with_reducible refine below_set ?_ (by omega) _))
      exact B2.out
    · have HS := Lib.hid h2
      have hkz : (k == 0) = false := by simp; omega
      have hnq : (n : Int) ≤ (q : Int) := by have := HL.out; omega
      clear h2
      go_wp2
      refine bodyPost_ret (v := .tuple #[.agg #[.slice (A) n c, .int .i64 ((q : Int)), .slice (A') n' c', .int .i64 ((a : Int) + 1)], .slice (some ⟨w2.heap.size, 0, none⟩) 0 0, .int .i64 1]) (by simp [results, Tryd.results139, go_sem, r0, r1, r2, r3, f0, f1, f2, f3, g1]) rfl (FIN.out _ HS.out _ ?_)
      refine Below.alloc ?_ (by simp; omega) _
      (repeat (with_reducible refine below_set ?_ (by omega) _))
      exact B2.out
  · have hk1 : 1 ≤ k := by omega
    have hq1 : q < n := by have := HL.out; omega
    have hkz : (k == 0) = false := by simp; omega
    have hnq : (q : Int) < (n : Int) := by omega
    have x0 := (X2.out.2 0 _ rfl).1; have x1 := (X2.out.2 1 _ rfl).1; have x2 := (X2.out.2 2 _ rfl).1; have x3 := (X2.out.2 3 _ rfl).1
    have I2 := Lib.hid (I1.out)
    go_wp2_with fail
    clear x0 x1 x2 x3
    all_goals
      refine (copyInts_any ((I2.out.drop (a := q) (by omega)).take (by omega)) (by omega) (by omega)).mono ?_
      rintro e w3 ⟨A3, n3, c3, rfl, hc3, hb3, hi3⟩
      have hl3 := hi3.len
      rw [List.length_take, List.length_drop] at hl3
      have HL3 := Lib.hid hl3
      have HI3 := Lib.hid hi3
      have HB3 := Lib.hid hb3
      clear hi3 hb3 hl3
      have s3 := HB3.out.size
      have X3 := Lib.hid (X2.out.below HB3.out (by omega))
      have R3 := Lib.hid (R2.out.below HB3.out (by omega))
      have h0 := X3.out.lt
      have h1 := R3.out.lt
      have x0 := (X3.out.2 0 _ rfl).1; have x1 := (X3.out.2 1 _ rfl).1; have x2 := (X3.out.2 2 _ rfl).1; have x3 := (X3.out.2 3 _ rfl).1
      have t0 := (X3.out.2 0 _ rfl).2; have t1 := (X3.out.2 1 _ rfl).2; have t2 := (X3.out.2 2 _ rfl).2; have t3 := (X3.out.2 3 _ rfl).2
      have r0 := (R3.out.2 0 _ rfl).1; have r1 := (R3.out.2 1 _ rfl).1; have r2 := (R3.out.2 2 _ rfl).1; have r3 := (R3.out.2 3 _ rfl).1
      have f0 := (R3.out.2 0 _ rfl).2; have f1 := (R3.out.2 1 _ rfl).2; have f2 := (R3.out.2 2 _ rfl).2; have f3 := (R3.out.2 3 _ rfl).2
      go_wp2
      first | (refine bodyPost_ret (v := .tuple #[.agg #[.slice (A) n c, .int .i64 ((n : Int)), .slice (A') n' c', .int .i64 ((a : Int) + 1)], .slice A3 n3 c3, .int .i64 0]) ?c1 rfl ?c2; case c1 => (simp [results, Tryd.results139, go_sem, r0, r1, r2, r3, f0, f1, f2, f3, x0, x1, x2, x3]; done)) | (refine bodyPost_ret (v := .tuple #[.agg #[.slice (A) n c, .int .i64 ((q : Int) + k), .slice (A') n' c', .int .i64 ((a : Int) + 1)], .slice A3 n3 c3, .int .i64 0]) ?c1 rfl ?c2; case c1 => (simp [results, Tryd.results139, go_sem, r0, r1, r2, r3, f0, f1, f2, f3, x0, x1, x2, x3]; done)) | (refine bodyPost_ret (v := .tuple #[.agg #[.slice (A) n c, .int .i64 ((q : Int) + N), .slice (A') n' c', .int .i64 ((a : Int) + 1)], .slice A3 n3 c3, .int .i64 0]) ?c1 rfl ?c2; case c1 => (simp [results, Tryd.results139, go_sem, r0, r1, r2, r3, f0, f1, f2, f3, x0, x1, x2, x3]; done))
      case c2 =>
        have hl0 := HL.out
        have hl3 := HL3.out
        have hk1' : ¬ k < 1 := by omega
        have hL : rdL D q k N = (D.drop q).take n3 := by
          rw [rdL, if_neg hk1', Int.toNat_natCast]
          exact take_same (by rw [List.length_drop]; omega)
        have hlen : ((rdL D q k N).length : Int) = (n3 : Int) := by rw [hL, List.length_take, List.length_drop]; omega
        have hst : rdSt D q k = 0 := by rw [rdSt, if_neg (by omega), if_neg (by omega), if_neg (by omega)]
        refine ⟨A3, n3, c3, ?_, hc3, ?_, ?_⟩
        · rw [hlen, hst]
          have e : ∀ x y : Int, x = y → Ending.returned (.tuple #[.agg #[.slice (A) n c, .int .i64 (x), .slice (A') n' c', .int .i64 ((a : Int) + 1)], .slice A3 n3 c3, .int .i64 0]) = .returned (.tuple #[.agg #[.slice (A) n c, .int .i64 (y), .slice (A') n' c', .int .i64 ((a : Int) + 1)], .slice A3 n3 c3, .int .i64 0]) := fun x y h => by rw [h]
          exact e _ _ (by omega)
        · have e3 : Below w.heap.size w w3 := below_step HB3.out B2.out (by omega)
          (repeat (with_reducible refine below_set ?_ (by omega) _))
          exact e3
        · simp only [World.size_setCell]
          refine Ints.more (lo := w2.heap.size) (hi := w3.heap.size) ?_ (by omega) (by omega)
          (repeat (with_reducible refine Ints.set_ ?_ (by omega) _))
          have hi := HI3.out
          rw [hL]
          have e5 : ∀ T : Nat, n3 = min T (D.length - q) → (D.drop q).take T = (D.drop q).take n3 := fun T h => take_same (by rw [List.length_drop]; omega)
          rw [e5 _ hl3] at hi
          exact hi

end Go.Proofs.YtdiebkaedjlckaaDoor
