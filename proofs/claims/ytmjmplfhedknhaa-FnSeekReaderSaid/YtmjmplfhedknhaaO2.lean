/- The model's readDevice, filled, given, readFull once more: what is read ahead is a row of the call's own. -/
import Derived.Test.YtmjmplfhedknhaaO1
import Derived.Test.YtmjmplfhedknhaaS2f
namespace Go.Proofs.Ytmjmplfhedknhaa
open Go.ChangeShapes Go.WideShapes Go.ChangeAt Go.RowKit
set_option linter.unusedSimpArgs false
set_option linter.unusedVariables false
set_option maxRecDepth 10000

theorem RowI.made' {w : World} {lo s : Nat} (hs : w.heap.size = s) (h : lo ≤ s) : RowI (w.alloc (.cells #[] 3)) lo (w.alloc (.cells #[] 3)).heap.size (some ⟨s, 0, none⟩) 0 0 [] := by
  subst hs
  rw [World.size_alloc]
  exact RowI.made w h
/-- A device with the same memory, and ints in new memory. -/
def SReadPostO (A : Option Addr) (n c : Nat) (p : Int) (A' : Option Addr) (n' c' a : Nat) (D : List Int) (k N : Int) (w : World) (e : Ending) (w' : World) : Prop :=
  ∃ A1 n1 c1, e = .returned (.tuple #[.agg #[.slice (A) n c, .int .i64 (p + ((rdL D p k N).length : Int)), .slice (A') n' c', .int .i64 ((a : Int) + 1)], .slice A1 n1 c1, .int .i64 (rdSt D p k)]) ∧ n1 ≤ c1 ∧ Below w.heap.size w w' ∧ RowI w' w.heap.size w'.heap.size A1 n1 c1 (rdL D p k N)

set_option maxHeartbeats 2000000 in
theorem sReadDevice0_own {A A' : Option Addr} {n c n' c' a : Nat} {D S : List Int} {p N : Int} {w : World} {L B L' B' : Nat} (h : Ints w L B A n D) (h' : Ints w L' B' A' n' S)
    (hB : B ≤ w.heap.size) (hB' : B' ≤ w.heap.size) (hnc : n ≤ c) (hv : validD D p S a = true) (ha : a < 1000) (hN : 1 ≤ N) (hN' : N ≤ 60) :
    Calls Try.prog 74 #[.agg #[.slice (A) n c, .int .i64 (p), .slice (A') n' c', .int .i64 ((a : Int))], .int .i64 N] w (SReadPostO A n c p A' n' c' a D (mayAt S a) N w) := by
  obtain ⟨hbD, hS12, hSall, ⟨hp0, hp1⟩, _⟩ := validD_iff.1 hv
  have hD60 := bytesB_le hbD
  have HL := Lib.hid h.len
  have hn60 : n ≤ 60 := by rw [h.len]; exact hD60
  have hki := mayAt_in hSall a
  have H1 := Lib.hid (fun o => (h.alloc hB (.cells #[.slice (A) n c, .int .i64 (p), .slice (A') n' c', .int .i64 ((a : Int))] 25)).alloc (by first | omega | (simp; omega) | (simp; done)) o)
  have H2 := Lib.hid (fun o => (h'.alloc hB' (.cells #[.slice (A) n c, .int .i64 (p), .slice (A') n' c', .int .i64 ((a : Int))] 25)).alloc (by first | omega | (simp; omega) | (simp; done)) o)
  have X0 := Lib.hid ((Box.new w 25 [.slice (A) n c, .int .i64 (p), .slice (A') n' c', .int .i64 ((a : Int))]).alloc (.cells #[.slice none 0 0, .int .i64 0, .slice none 0 0, .int .i64 0] 25))
  have R0 := Lib.hid (Box.new (w.alloc (.cells #[.slice (A) n c, .int .i64 (p), .slice (A') n' c', .int .i64 ((a : Int))] 25)) 25 [.slice none 0 0, .int .i64 0, .slice none 0 0, .int .i64 0])
  (try simp only [World.size_alloc, World.size_setCell, World.size_drew] at R0)
  have hcall := fun o => allowed_any (A := A) (n := n) (c := c) (c' := c') (a := a) (p := p) (H2.out o) (by first | omega | (simp; omega) | (simp; done))
  obtain ⟨k, hk⟩ : ∃ k, mayAt S a = k := ⟨_, rfl⟩
  rw [hk] at hki hcall ⊢
  have HC := Lib.hid hcall
  clear hk hcall hbD hS12 hSall hv
  obtain ⟨q, rfl⟩ := Int.eq_ofNat_of_zero_le hp0
  go_enter Try.func74, Try.ntmps74
  go_wp2_with fail
  refine (HC.out _).mono ?_
  rintro e w1 ⟨rfl, hb1⟩
  (try simp only [World.size_alloc, World.size_setCell, World.size_drew] at hb1)
  have HB1 := Lib.hid hb1
  clear hb1
  have s1 := HB1.out.size
  (try simp only [World.size_alloc, World.size_setCell, World.size_drew] at s1)
  have X1 := Lib.hid (X0.out.below HB1.out (by omega))
  have R1 := Lib.hid (R0.out.below HB1.out (by omega))
  have I1 := Lib.hid (((H1.out _).below HB1.out (by omega)).set_ (b := w.heap.size) (o := 3) (by omega) (.int .i64 ((a : Int) + 1)))
  have x0 := (X1.out.2 0 _ rfl).1; have x1 := (X1.out.2 1 _ rfl).1; have x2 := (X1.out.2 2 _ rfl).1; have x3 := (X1.out.2 3 _ rfl).1
  have t3 := (X1.out.2 3 _ rfl).2
  clear R0 X0 H1 H2 HC
  go_upto_region 3 with (fail)
  have X2 := Lib.hid (X1.out.put (i := 3) (by simp) (.int .i64 ((a : Int) + 1)))
  have R2 := Lib.hid (R1.out.set_ (b' := w.heap.size) (o := 3) (by omega) (.int .i64 ((a : Int) + 1)))
  have B2 : Hid (Below w.heap.size w (w1.setCell ⟨w.heap.size, 3, none⟩ (.int .i64 ((a : Int) + 1)))) := below_set (below_step HB1.out (by go_grown) (by first | omega | (simp; omega) | (simp; done))) (Nat.le_refl _) _
  have z2 : w.heap.size + 1 + 1 ≤ (w1.setCell ⟨w.heap.size, 3, none⟩ (.int .i64 ((a : Int) + 1))).heap.size := by simp; omega
  clear x0 x1 x2 x3 t3
  generalize w1.setCell ⟨w.heap.size, 3, none⟩ (.int .i64 ((a : Int) + 1)) = w2 at *
  have g0 := X2.out.lt
  have g1 := R2.out.lt
  clear X1 R1 HB1 s1
  by_cases k0 : k < 1 ∨ D.length ≤ q
  · have hL : rdL D q k N = [] := by
      unfold rdL
      split
      · rfl
      · rw [Int.toNat_natCast, List.drop_of_length_le (by omega)]; simp
    have HL0 := Lib.hid hL
    clear hL
    have x0 := (X2.out.2 0 _ rfl).1; have x1 := (X2.out.2 1 _ rfl).1; have x2 := (X2.out.2 2 _ rfl).1; have x3 := (X2.out.2 3 _ rfl).1
    have r0 := (R2.out.2 0 _ rfl).1; have r1 := (R2.out.2 1 _ rfl).1; have r2 := (R2.out.2 2 _ rfl).1; have r3 := (R2.out.2 3 _ rfl).1
    have f0 := (R2.out.2 0 _ rfl).2; have f1 := (R2.out.2 1 _ rfl).2; have f2 := (R2.out.2 2 _ rfl).2; have f3 := (R2.out.2 3 _ rfl).2
    have hcase : (k < 0 ∧ rdSt D q k = 3) ∨ (k = 0 ∧ rdSt D q k = 2) ∨ (0 < k ∧ D.length ≤ q ∧ rdSt D q k = 1) := by
      unfold rdSt
      rcases Int.lt_trichotomy k 0 with h1 | h1 | h1
      · exact .inl ⟨h1, by rw [if_pos h1]⟩
      · exact .inr (.inl ⟨h1, by rw [if_neg (by omega), if_pos h1]⟩)
      · exact .inr (.inr ⟨h1, by omega, by rw [if_neg (by omega), if_neg (by omega), if_pos (by omega)]⟩)
    have fin : ∀ st : Int, Hid (rdSt D q k = st) → ∀ w3 : World, Below w.heap.size w w3 → RowI w3 w.heap.size w3.heap.size (some ⟨w2.heap.size, 0, none⟩) 0 0 [] → SReadPostO A n c q A' n' c' a D k N w (.returned (.tuple #[.agg #[.slice (A) n c, .int .i64 ((q : Int)), .slice (A') n' c', .int .i64 ((a : Int) + 1)], .slice (some ⟨w2.heap.size, 0, none⟩) 0 0, .int .i64 st])) w3 := by
      intro st hst w3 hb hr
      refine ⟨some ⟨w2.heap.size, 0, none⟩, 0, 0, ?_, Nat.le_refl _, hb, ?_⟩
      · rw [HL0.out, hst.out]; simp
      · rw [HL0.out]; exact hr
    have FIN := Lib.hid fin
    clear fin k0
    rcases hcase with ⟨h1, h2⟩ | ⟨rfl, h2⟩ | ⟨h1, h3, h2⟩
    · have HS := Lib.hid h2
      clear h2
      go_wp2
      refine bodyPost_ret (v := .tuple #[.agg #[.slice (A) n c, .int .i64 ((q : Int)), .slice (A') n' c', .int .i64 ((a : Int) + 1)], .slice (some ⟨w2.heap.size, 0, none⟩) 0 0, .int .i64 3]) (by simp [results, Try.results74, go_sem, r0, r1, r2, r3, f0, f1, f2, f3, g1]) rfl (FIN.out _ HS.out _ ?_ (RowI.made' (by simp) (by omega)))
      refine Below.alloc ?_ (by simp; omega) _
      (repeat (with_reducible refine below_set ?_ (by omega) _))
      exact B2.out
    · have HS := Lib.hid h2
      clear h2
      go_wp2
      refine bodyPost_ret (v := .tuple #[.agg #[.slice (A) n c, .int .i64 ((q : Int)), .slice (A') n' c', .int .i64 ((a : Int) + 1)], .slice (some ⟨w2.heap.size, 0, none⟩) 0 0, .int .i64 2]) (by simp [results, Try.results74, go_sem, r0, r1, r2, r3, f0, f1, f2, f3, g1]) rfl (FIN.out _ HS.out _ ?_ (RowI.made' (by simp) (by omega)))
      refine Below.alloc ?_ (by simp; omega) _
      (repeat (with_reducible refine below_set ?_ (by omega) _))
      exact B2.out
    · have HS := Lib.hid h2
      have hkz : (k == 0) = false := by simp; omega
      have hnq : (n : Int) ≤ (q : Int) := by have := HL.out; omega
      clear h2
      go_wp2
      refine bodyPost_ret (v := .tuple #[.agg #[.slice (A) n c, .int .i64 ((q : Int)), .slice (A') n' c', .int .i64 ((a : Int) + 1)], .slice (some ⟨w2.heap.size, 0, none⟩) 0 0, .int .i64 1]) (by simp [results, Try.results74, go_sem, r0, r1, r2, r3, f0, f1, f2, f3, g1]) rfl (FIN.out _ HS.out _ ?_ (RowI.made' (by simp) (by omega)))
      refine Below.alloc ?_ (by simp; omega) _
      (repeat (with_reducible refine below_set ?_ (by omega) _))
      exact B2.out
  · have hk1 : 1 ≤ k := by omega
    have hq1 : q < n := by have := HL.out; omega
    have hkz : (k == 0) = false := by simp; omega
    have hnq : (q : Int) < (n : Int) := by omega
    have x0 := (X2.out.2 0 _ rfl).1; have x1 := (X2.out.2 1 _ rfl).1; have x2 := (X2.out.2 2 _ rfl).1; have x3 := (X2.out.2 3 _ rfl).1
    have I2 := Lib.hid (I1.out)
    go_wp2_with fail
    clear x0 x1 x2 x3
    all_goals
      refine (copyInts_row ((I2.out.drop (a := q) (by omega)).take (by omega)) (by omega) (by omega)).mono ?_
      rintro e w3 ⟨A3, n3, c3, rfl, hc3, hb3, hi3⟩
      have hl3 := hi3.len
      rw [List.length_take, List.length_drop] at hl3
      have HL3 := Lib.hid hl3
      have HI3 := Lib.hid hi3
      have HB3 := Lib.hid hb3
      clear hi3 hb3 hl3
      have s3 := HB3.out.size
      have X3 := Lib.hid (X2.out.below HB3.out (by omega))
      have R3 := Lib.hid (R2.out.below HB3.out (by omega))
      have h0 := X3.out.lt
      have h1 := R3.out.lt
      have x0 := (X3.out.2 0 _ rfl).1; have x1 := (X3.out.2 1 _ rfl).1; have x2 := (X3.out.2 2 _ rfl).1; have x3 := (X3.out.2 3 _ rfl).1
      have t0 := (X3.out.2 0 _ rfl).2; have t1 := (X3.out.2 1 _ rfl).2; have t2 := (X3.out.2 2 _ rfl).2; have t3 := (X3.out.2 3 _ rfl).2
      have r0 := (R3.out.2 0 _ rfl).1; have r1 := (R3.out.2 1 _ rfl).1; have r2 := (R3.out.2 2 _ rfl).1; have r3 := (R3.out.2 3 _ rfl).1
      have f0 := (R3.out.2 0 _ rfl).2; have f1 := (R3.out.2 1 _ rfl).2; have f2 := (R3.out.2 2 _ rfl).2; have f3 := (R3.out.2 3 _ rfl).2
      go_wp2
      first | (refine bodyPost_ret (v := .tuple #[.agg #[.slice (A) n c, .int .i64 ((n : Int)), .slice (A') n' c', .int .i64 ((a : Int) + 1)], .slice A3 n3 c3, .int .i64 0]) ?c1 rfl ?c2; case c1 => (simp [results, Try.results74, go_sem, r0, r1, r2, r3, f0, f1, f2, f3, x0, x1, x2, x3]; done)) | (refine bodyPost_ret (v := .tuple #[.agg #[.slice (A) n c, .int .i64 ((q : Int) + k), .slice (A') n' c', .int .i64 ((a : Int) + 1)], .slice A3 n3 c3, .int .i64 0]) ?c1 rfl ?c2; case c1 => (simp [results, Try.results74, go_sem, r0, r1, r2, r3, f0, f1, f2, f3, x0, x1, x2, x3]; done)) | (refine bodyPost_ret (v := .tuple #[.agg #[.slice (A) n c, .int .i64 ((q : Int) + N), .slice (A') n' c', .int .i64 ((a : Int) + 1)], .slice A3 n3 c3, .int .i64 0]) ?c1 rfl ?c2; case c1 => (simp [results, Try.results74, go_sem, r0, r1, r2, r3, f0, f1, f2, f3, x0, x1, x2, x3]; done))
      case c2 =>
        have hl0 := HL.out
        have hl3 := HL3.out
        have hk1' : ¬ k < 1 := by omega
        have hL : rdL D q k N = (D.drop q).take n3 := by
          rw [rdL, if_neg hk1', Int.toNat_natCast]
          exact take_same (by rw [List.length_drop]; omega)
        have hlen : ((rdL D q k N).length : Int) = (n3 : Int) := by rw [hL, List.length_take, List.length_drop]; omega
        have hst : rdSt D q k = 0 := by rw [rdSt, if_neg (by omega), if_neg (by omega), if_neg (by omega)]
        refine ⟨A3, n3, c3, ?_, hc3, ?_, ?_⟩
        · rw [hlen, hst]
          have e : ∀ x y : Int, x = y → Ending.returned (.tuple #[.agg #[.slice (A) n c, .int .i64 (x), .slice (A') n' c', .int .i64 ((a : Int) + 1)], .slice A3 n3 c3, .int .i64 0]) = .returned (.tuple #[.agg #[.slice (A) n c, .int .i64 (y), .slice (A') n' c', .int .i64 ((a : Int) + 1)], .slice A3 n3 c3, .int .i64 0]) := fun x y h => by rw [h]
          exact e _ _ (by omega)
        · have e3 : Below w.heap.size w w3 := below_step HB3.out B2.out (by omega)
          (repeat (with_reducible refine below_set ?_ (by omega) _))
          exact e3
        · simp only [World.size_setCell]
          refine RowI.more (lo := w2.heap.size) (hi := w3.heap.size) ?_ (by omega) (by omega)
          (repeat (with_reducible refine RowI.set_ ?_ (by omega) _))
          have hi := HI3.out
          rw [hL]
          have e5 : ∀ T : Nat, n3 = min T (D.length - q) → (D.drop q).take T = (D.drop q).take n3 := fun T h => take_same (by rw [List.length_drop]; omega)
          rw [e5 _ hl3] at hi
          exact hi


/-- What filled gives: the same memory but for what is read ahead. -/
def FilledPostO (A : Option Addr) (n c : Nat) (A' : Option Addr) (n' c' : Nat) (D S : List Int) (z p : Int) (a : Nat) (A2 : Option Addr) (n2 M C : Nat) (R : List Int) (w : World) (e : Ending) (w' : World) : Prop :=
  ∃ A5 n5 c5 M' C', e = .returned (.tuple #[.agg #[.slice (A) n c, .int .i64 (flP D S z p a R), .slice (A') n' c', .int .i64 ((flA a R : Int)), .slice (A5) n5 c5, .int .i64 (z)], .int .i64 (flS D S p a R)]) ∧ n5 ≤ c5 ∧ Below w.heap.size w w' ∧ RowI w' M' C' A5 n5 c5 (flR D S z p a R) ∧ C' ≤ w'.heap.size ∧ ((A5 = A2 ∧ n5 = n2 ∧ M' = M ∧ C' = C) ∨ w.heap.size ≤ M')
set_option maxHeartbeats 2000000 in
theorem filled_own {A A' A2 : Option Addr} {n c n' c' n2 c2 a : Nat} {D S R : List Int} {p z : Int} {w : World} {L L' B B' M C : Nat} (h : Ints w L B A n D) (h' : Ints w L' B' A' n' S) (g : RowI w M C A2 n2 c2 R) (hB : B ≤ w.heap.size) (hB' : B' ≤ w.heap.size) (hC : C ≤ w.heap.size)
    (hnc : n ≤ c) (hn2 : n2 ≤ c2) (hv : validD D p S (a : Int) = true) (ha : a < 1000) (hz : 1 ≤ z) (hz' : z ≤ 60) :
    Calls Try.prog 44 #[.agg #[.slice (A) n c, .int .i64 (p), .slice (A') n' c', .int .i64 ((a : Int)), .slice (A2) n2 c2, .int .i64 (z)]] w (FilledPostO A n c A' n' c' D S z p a A2 n2 M C R w) := by
  have HG := Lib.hid g.len
  have H1 : Hid (Ints ((w.alloc (.cells #[.slice (A) n c, .int .i64 (p), .slice (A') n' c', .int .i64 ((a : Int)), .slice (A2) n2 c2, .int .i64 (z)] 27)).alloc (.cells #[.slice none 0 0, .int .i64 0, .slice none 0 0, .int .i64 0, .slice none 0 0, .int .i64 0] 27)) L B A n D) := (h.alloc hB _).alloc (by first | omega | (simp; omega) | (simp; done)) _
  have H2 : Hid (Ints ((w.alloc (.cells #[.slice (A) n c, .int .i64 (p), .slice (A') n' c', .int .i64 ((a : Int)), .slice (A2) n2 c2, .int .i64 (z)] 27)).alloc (.cells #[.slice none 0 0, .int .i64 0, .slice none 0 0, .int .i64 0, .slice none 0 0, .int .i64 0] 27)) L' B' A' n' S) := (h'.alloc hB' _).alloc (by first | omega | (simp; omega) | (simp; done)) _
  have G1 : Hid (RowI ((w.alloc (.cells #[.slice (A) n c, .int .i64 (p), .slice (A') n' c', .int .i64 ((a : Int)), .slice (A2) n2 c2, .int .i64 (z)] 27)).alloc (.cells #[.slice none 0 0, .int .i64 0, .slice none 0 0, .int .i64 0, .slice none 0 0, .int .i64 0] 27)) M C A2 n2 c2 R) := (g.alloc hC _).alloc (by first | omega | (simp; omega) | (simp; done)) _
  have X0 : Hid (Box ((w.alloc (.cells #[.slice (A) n c, .int .i64 (p), .slice (A') n' c', .int .i64 ((a : Int)), .slice (A2) n2 c2, .int .i64 (z)] 27)).alloc (.cells #[.slice none 0 0, .int .i64 0, .slice none 0 0, .int .i64 0, .slice none 0 0, .int .i64 0] 27)) w.heap.size [.slice (A) n c, .int .i64 (p), .slice (A') n' c', .int .i64 ((a : Int)), .slice (A2) n2 c2, .int .i64 (z)]) := (Box.new w 27 [.slice (A) n c, .int .i64 (p), .slice (A') n' c', .int .i64 ((a : Int)), .slice (A2) n2 c2, .int .i64 (z)]).alloc _
  have R0 : Hid (Box ((w.alloc (.cells #[.slice (A) n c, .int .i64 (p), .slice (A') n' c', .int .i64 ((a : Int)), .slice (A2) n2 c2, .int .i64 (z)] 27)).alloc (.cells #[.slice none 0 0, .int .i64 0, .slice none 0 0, .int .i64 0, .slice none 0 0, .int .i64 0] 27)) (w.heap.size + 1) [.slice none 0 0, .int .i64 0, .slice none 0 0, .int .i64 0, .slice none 0 0, .int .i64 0]) := by
    have hx := Box.new (w.alloc (.cells #[.slice (A) n c, .int .i64 (p), .slice (A') n' c', .int .i64 ((a : Int)), .slice (A2) n2 c2, .int .i64 (z)] 27)) 27 [.slice none 0 0, .int .i64 0, .slice none 0 0, .int .i64 0, .slice none 0 0, .int .i64 0]
    rw [World.size_alloc] at hx
    exact hx
  have E0 : Hid (Below w.heap.size w ((w.alloc (.cells #[.slice (A) n c, .int .i64 (p), .slice (A') n' c', .int .i64 ((a : Int)), .slice (A2) n2 c2, .int .i64 (z)] 27)).alloc (.cells #[.slice none 0 0, .int .i64 0, .slice none 0 0, .int .i64 0, .slice none 0 0, .int .i64 0] 27))) := (by go_grown : Below w.heap.size w _)
  have s0 : (((w.alloc (.cells #[.slice (A) n c, .int .i64 (p), .slice (A') n' c', .int .i64 ((a : Int)), .slice (A2) n2 c2, .int .i64 (z)] 27)).alloc (.cells #[.slice none 0 0, .int .i64 0, .slice none 0 0, .int .i64 0, .slice none 0 0, .int .i64 0] 27))).heap.size = w.heap.size + 2 := by simp
  have HV := Lib.hid hv
  have G2 := Lib.hid (fun o1 o2 => (g.alloc hC o1).alloc (by first | omega | (simp; omega) | (simp; done)) o2)
  clear h h' g hv
  by_cases h0 : n2 = 0
  · obtain rfl : R = [] := List.eq_nil_of_length_eq_zero (by have := HG.out; omega)
    have h1 : ¬ (0 : Int) < (n2 : Int) := by omega
    have h1n : ¬ 0 < n2 := by omega
    clear h0
    go_enter Try.func44, Try.ntmps44
    go_wp2_with fail
    generalize ((w.alloc (.cells #[.slice (A) n c, .int .i64 (p), .slice (A') n' c', .int .i64 ((a : Int)), .slice (A2) n2 c2, .int .i64 (z)] 27)).alloc (.cells #[.slice none 0 0, .int .i64 0, .slice none 0 0, .int .i64 0, .slice none 0 0, .int .i64 0] 27)) = w0 at *
    refine (sReadDevice0_own H1.out H2.out (by omega) (by omega) hnc HV.out ha hz hz').mono ?_
    rintro e w1 ⟨A5, n5, c5, rfl, hc5, hb1, hi1⟩
    have s1 := hb1.size
    have X1 := Lib.hid (X0.out.below hb1 (by omega))
    have R1 := Lib.hid (R0.out.below hb1 (by omega))
    have E1 := Lib.hid (below_step hb1 E0.out (by omega))
    have HI1 := Lib.hid hi1
    clear hb1 hi1 X0 R0 E0 H1 H2 G1
    have gx := X1.out.lt
    have gr := R1.out.lt
    go_upto_region 4 with (fail)
    refine wp_rename (fun w2 => Hid (Box w2 w1.heap.size [.slice (A) n c, .int .i64 (p + ((rdL D p (mayAt S a) z).length : Int)), .slice (A') n' c', .int .i64 ((a : Int) + 1)]) ∧ Hid (Box w2 w.heap.size [.slice (A) n c, .int .i64 (p), .slice (A') n' c', .int .i64 ((a : Int)), .slice (A2) n2 c2, .int .i64 (z)]) ∧ Hid (Box w2 (w.heap.size + 1) [.slice none 0 0, .int .i64 0, .slice none 0 0, .int .i64 0, .slice none 0 0, .int .i64 0]) ∧ Hid (Below w.heap.size w w2) ∧ Hid (RowI w2 w0.heap.size w1.heap.size A5 n5 c5 (rdL D p (mayAt S a) z)) ∧ w1.heap.size < w2.heap.size) ⟨?_, ?_, ?_, ?_, ?_, ?_⟩ ?_
    · exact Box.new w1 25 [.slice (A) n c, .int .i64 (p + ((rdL D p (mayAt S a) z).length : Int)), .slice (A') n' c', .int .i64 ((a : Int) + 1)]
    · show Box _ _ _
      (repeat (with_reducible refine Box.set_ ?_ (by omega) _))
      exact X1.out.alloc _
    · show Box _ _ _
      (repeat (with_reducible refine Box.set_ ?_ (by omega) _))
      exact R1.out.alloc _
    · show Below _ _ _
      (repeat (with_reducible refine below_set ?_ (by omega) _))
      exact E1.out.alloc (by omega) _
    · show RowI _ _ _ _ _ _ _
      (repeat (with_reducible refine RowI.set_ ?_ (by omega) _))
      exact HI1.out.alloc (by omega) _
    · simp only [World.size_setCell, World.size_alloc]; omega
    rintro w2 ⟨D2, X2, R2, E2, HI2, s2⟩
    clear X1 R1 E1 HI1 gx gr
    have d0 := (D2.out.2 0 _ rfl).1; have d1 := (D2.out.2 1 _ rfl).1; have d2 := (D2.out.2 2 _ rfl).1; have d3 := (D2.out.2 3 _ rfl).1
    have x0 := (X2.out.2 0 _ rfl).1; have x1 := (X2.out.2 1 _ rfl).1; have x2 := (X2.out.2 2 _ rfl).1; have x3 := (X2.out.2 3 _ rfl).1; have x4 := (X2.out.2 4 _ rfl).1; have x5 := (X2.out.2 5 _ rfl).1
    have f0 := (X2.out.2 0 _ rfl).2; have f1 := (X2.out.2 1 _ rfl).2; have f2 := (X2.out.2 2 _ rfl).2; have f3 := (X2.out.2 3 _ rfl).2; have f4 := (X2.out.2 4 _ rfl).2; have f5 := (X2.out.2 5 _ rfl).2
    go_upto_region 6 with (fail)
    clear d0 d1 d2 d3
    clear x0 x1 x2 x3 x4 x5
    clear f0 f1 f2 f3 f4 f5
    refine wp_rename (fun w3 => Hid (Box w3 w.heap.size [.slice (A) n c, .int .i64 (p + ((rdL D p (mayAt S a) z).length : Int)), .slice (A') n' c', .int .i64 ((a : Int) + 1), .slice (A5) n5 c5, .int .i64 (z)]) ∧ Hid (Box w3 (w.heap.size + 1) [.slice none 0 0, .int .i64 0, .slice none 0 0, .int .i64 0, .slice none 0 0, .int .i64 0]) ∧ Hid (Below w.heap.size w w3) ∧ Hid (RowI w3 w0.heap.size w1.heap.size A5 n5 c5 (rdL D p (mayAt S a) z)) ∧ w1.heap.size ≤ w3.heap.size) ⟨?_, ?_, ?_, ?_, ?_⟩ ?_
    · have hx := ((((X2.out.put (i := 0) (by simp) (.slice A n c)).put (i := 1) (by simp) (.int .i64 (p + ((rdL D p (mayAt S a) z).length : Int)))).put (i := 2) (by simp) (.slice A' n' c')).put (i := 3) (by simp) (.int .i64 ((a : Int) + 1))).put (i := 4) (by simp) (.slice A5 n5 c5)
      show Box _ _ _
      simpa using hx
    · show Box _ _ _
      (repeat (with_reducible refine Box.set_ ?_ (by omega) _))
      exact R2.out
    · show Below _ _ _
      (repeat (with_reducible refine below_set ?_ (by omega) _))
      exact E2.out
    · show RowI _ _ _ _ _ _ _
      (repeat (with_reducible refine RowI.set_ ?_ (by omega) _))
      exact HI2.out
    · simp only [World.size_setCell]; omega
    clear D2 X2 R2 E2 HI2 s2
    rintro w2' ⟨X2, R2, E2, HI2, s2⟩
    have gr := R2.out.lt
    have x0 := (X2.out.2 0 _ rfl).1; have x1 := (X2.out.2 1 _ rfl).1; have x2 := (X2.out.2 2 _ rfl).1; have x3 := (X2.out.2 3 _ rfl).1; have x4 := (X2.out.2 4 _ rfl).1; have x5 := (X2.out.2 5 _ rfl).1
    have r0 := (R2.out.2 0 _ rfl).1; have r1 := (R2.out.2 1 _ rfl).1; have r2 := (R2.out.2 2 _ rfl).1; have r3 := (R2.out.2 3 _ rfl).1; have r4 := (R2.out.2 4 _ rfl).1; have r5 := (R2.out.2 5 _ rfl).1
    have g0 := (R2.out.2 0 _ rfl).2; have g1 := (R2.out.2 1 _ rfl).2; have g2 := (R2.out.2 2 _ rfl).2; have g3 := (R2.out.2 3 _ rfl).2; have g4 := (R2.out.2 4 _ rfl).2; have g5 := (R2.out.2 5 _ rfl).2
    go_wp2
    refine bodyPost_ret (v := .tuple #[.agg #[.slice (A) n c, .int .i64 (p + ((rdL D p (mayAt S a) z).length : Int)), .slice (A') n' c', .int .i64 ((a : Int) + 1), .slice (A5) n5 c5, .int .i64 (z)], .int .i64 (rdSt D p (mayAt S a))]) (by simp [results, Try.results44, go_sem, r0, r1, r2, r3, r4, r5, g0, g1, g2, g3, g4, g5, gr]) rfl ?_
    refine ⟨A5, n5, c5, w0.heap.size, w1.heap.size, ?_, hc5, ?_, ?_, ?_, .inr (by omega)⟩
    · simp [flP, flA, flS]
    · (repeat (with_reducible refine below_set ?_ (by omega) _))
      exact E2.out
    · simp only [flR, if_pos]
      (repeat (with_reducible refine RowI.set_ ?_ (by omega) _))
      exact HI2.out
    · simp only [World.size_setCell]; omega
  · have h1 : (0 : Int) < (n2 : Int) := by omega
    have hne : ¬ R = [] := by rintro rfl; exact h0 HG.out
    have HE : Hid (flS D S p a R = 0 ∧ flP D S z p a R = p ∧ flA a R = a ∧ flR D S z p a R = R) := by
      show _ ∧ _
      unfold flS flP flA flR
      rw [if_neg hne, if_neg hne, if_neg hne, if_neg hne]
      exact ⟨rfl, rfl, rfl, rfl⟩
    clear hne
    clear X0 R0 E0 H1 H2 G1 s0
    go_enter Try.func44, Try.ntmps44
    go_wp2
    refine bodyPost_ret (v := .tuple #[.agg #[.slice (A) n c, .int .i64 (p), .slice (A') n' c', .int .i64 ((a : Int)), .slice (A2) n2 c2, .int .i64 (z)], .int .i64 0]) (by simp [results, Try.results44, go_sem]) rfl ?_
    obtain ⟨e1, e2, e3, e4⟩ := HE.out
    unfold FilledPostO
    rw [e1, e2, e3, e4]
    refine ⟨A2, n2, c2, M, C, rfl, hn2, ?_, ?_, ?_, .inl ⟨rfl, rfl, rfl, rfl⟩⟩
    · go_grown
    · exact G2.out _ _
    · simp; omega
/-- What given gives: the same memory, the bytes and what is left in new memory. -/
def GivenPostO (A : Option Addr) (n c : Nat) (A' : Option Addr) (n' c' : Nat) (z p q : Int) (m : Nat) (R : List Int) (w : World) (e : Ending) (w' : World) : Prop :=
  ∃ A6 c6 A5 n5 c5 X, e = .returned (.tuple #[.agg #[.slice (A) n c, .int .i64 (p), .slice (A') n' c', .int .i64 (q), .slice (A5) n5 c5, .int .i64 (z)], .slice A6 m c6]) ∧ m ≤ c6 ∧ n5 ≤ c5 ∧ Below w.heap.size w w' ∧ w.heap.size ≤ X ∧ X ≤ w'.heap.size ∧ RowI w' w.heap.size X A6 m c6 (R.take m) ∧ RowI w' X w'.heap.size A5 n5 c5 (R.drop m)
set_option maxHeartbeats 2000000 in
theorem given_own {A A' A2 : Option Addr} {n c n' c' n2 c2 k m : Nat} {R : List Int} {p q z : Int} {w : World} {M C : Nat} (g : RowI w M C A2 n2 c2 R) (hC : C ≤ w.heap.size) (hn2 : n2 ≤ c2) (hb : n2 ≤ 1000) (hk : k ≤ 1000) (hm : m = min k n2) :
    Calls Try.prog 46 #[.agg #[.slice (A) n c, .int .i64 (p), .slice (A') n' c', .int .i64 (q), .slice (A2) n2 c2, .int .i64 (z)], .int .i64 (k : Int)] w (GivenPostO A n c A' n' c' z p q m R w) := by
  have HG := Lib.hid g.len
  have G1 : Hid (RowI ((w.alloc (.cells #[.slice (A) n c, .int .i64 (p), .slice (A') n' c', .int .i64 (q), .slice (A2) n2 c2, .int .i64 (z)] 27)).alloc (.cells #[.slice none 0 0, .int .i64 0, .slice none 0 0, .int .i64 0, .slice none 0 0, .int .i64 0] 27)) M C A2 n2 c2 R) := (g.alloc hC _).alloc (by first | omega | (simp; omega) | (simp; done)) _
  have X0 : Hid (Box ((w.alloc (.cells #[.slice (A) n c, .int .i64 (p), .slice (A') n' c', .int .i64 (q), .slice (A2) n2 c2, .int .i64 (z)] 27)).alloc (.cells #[.slice none 0 0, .int .i64 0, .slice none 0 0, .int .i64 0, .slice none 0 0, .int .i64 0] 27)) w.heap.size [.slice (A) n c, .int .i64 (p), .slice (A') n' c', .int .i64 (q), .slice (A2) n2 c2, .int .i64 (z)]) := (Box.new w 27 [.slice (A) n c, .int .i64 (p), .slice (A') n' c', .int .i64 (q), .slice (A2) n2 c2, .int .i64 (z)]).alloc _
  have R0 : Hid (Box ((w.alloc (.cells #[.slice (A) n c, .int .i64 (p), .slice (A') n' c', .int .i64 (q), .slice (A2) n2 c2, .int .i64 (z)] 27)).alloc (.cells #[.slice none 0 0, .int .i64 0, .slice none 0 0, .int .i64 0, .slice none 0 0, .int .i64 0] 27)) (w.heap.size + 1) [.slice none 0 0, .int .i64 0, .slice none 0 0, .int .i64 0, .slice none 0 0, .int .i64 0]) := by
    have hx := Box.new (w.alloc (.cells #[.slice (A) n c, .int .i64 (p), .slice (A') n' c', .int .i64 (q), .slice (A2) n2 c2, .int .i64 (z)] 27)) 27 [.slice none 0 0, .int .i64 0, .slice none 0 0, .int .i64 0, .slice none 0 0, .int .i64 0]
    rw [World.size_alloc] at hx
    exact hx
  have E0 : Hid (Below w.heap.size w ((w.alloc (.cells #[.slice (A) n c, .int .i64 (p), .slice (A') n' c', .int .i64 (q), .slice (A2) n2 c2, .int .i64 (z)] 27)).alloc (.cells #[.slice none 0 0, .int .i64 0, .slice none 0 0, .int .i64 0, .slice none 0 0, .int .i64 0] 27))) := (by go_grown : Below w.heap.size w _)
  have s0 : (((w.alloc (.cells #[.slice (A) n c, .int .i64 (p), .slice (A') n' c', .int .i64 (q), .slice (A2) n2 c2, .int .i64 (z)] 27)).alloc (.cells #[.slice none 0 0, .int .i64 0, .slice none 0 0, .int .i64 0, .slice none 0 0, .int .i64 0] 27))).heap.size = w.heap.size + 2 := by simp
  clear g
  have hk0 : (0 : Int) ≤ (k : Int) := by omega
  have hn0 : (0 : Int) ≤ (n2 : Int) := by omega
  have hnc : (n2 : Int) ≤ (c2 : Int) := by omega
  go_enter Try.func46, Try.ntmps46
  go_upto_region 1 with (fail)
  refine wp_rename (fun w0 => Hid (RowI w0 M C A2 n2 c2 R) ∧ Hid (Box w0 w.heap.size [.slice (A) n c, .int .i64 (p), .slice (A') n' c', .int .i64 (q), .slice (A2) n2 c2, .int .i64 (z)]) ∧ Hid (Box w0 (w.heap.size + 1) [.slice none 0 0, .int .i64 0, .slice none 0 0, .int .i64 0, .slice none 0 0, .int .i64 0]) ∧ Hid (Below w.heap.size w w0) ∧ w0.heap.size = w.heap.size + 2) ⟨G1, X0, R0, E0, s0⟩ ?_
  clear G1 X0 R0 E0 s0
  rintro w0 ⟨G1, X0, R0, E0, s0⟩
  have x0 := (X0.out.2 0 _ rfl).1; have x1 := (X0.out.2 1 _ rfl).1; have x2 := (X0.out.2 2 _ rfl).1; have x3 := (X0.out.2 3 _ rfl).1; have x4 := (X0.out.2 4 _ rfl).1; have x5 := (X0.out.2 5 _ rfl).1
  by_cases hlt : n2 < k
  · have hltI : (n2 : Int) < (k : Int) := by omega
    obtain rfl : n2 = m := by omega
    have hmn : n2 ≤ n2 := Nat.le_refl _
    have HDR : Hid (R.drop n2 = []) := by show _ = _; exact List.drop_eq_nil_of_le (by rw [← HG.out]; exact Nat.le_refl _)
    clear hm
    by_cases hcm : c2 = n2
    · go_wp2_with fail
      refine (copyInts_row (G1.out.ints.take hmn) (by omega) (by omega)).mono ?_
      rintro e w1 ⟨A6, n6, c6, rfl, hc6, hb1, hi1⟩
      obtain rfl : n2 = n6 := by have := hi1.len; rw [List.length_take, ← HG.out] at this; omega
      have s1 := hb1.size
      have X1 := Lib.hid (X0.out.below hb1 (by omega))
      have R1 := Lib.hid (R0.out.below hb1 (by omega))
      have E1 := Lib.hid (below_step hb1 E0.out (by omega))
      have HI1 := Lib.hid hi1
      have G2 := Lib.hid (G1.out.below hb1 (by omega))
      clear hb1 hi1 X0 R0 E0 G1
      clear x0 x1 x2 x3 x4 x5
      have x0 := (X1.out.2 0 _ rfl).1; have x1 := (X1.out.2 1 _ rfl).1; have x2 := (X1.out.2 2 _ rfl).1; have x3 := (X1.out.2 3 _ rfl).1; have x4 := (X1.out.2 4 _ rfl).1; have x5 := (X1.out.2 5 _ rfl).1
      go_wp2_with fail
      clear x0 x1 x2 x3 x4 x5
      refine (copyInts_row (Ints.nil w1 0 0 0 _).1 (by omega) (by omega)).mono ?_
      rintro e w2 ⟨A5, n5, c5, rfl, hc5, hb2, hi2⟩
      have s2 := hb2.size
      have X2 := Lib.hid (X1.out.below hb2 (by omega))
      have R2 := Lib.hid (R1.out.below hb2 (by omega))
      have E2 := Lib.hid (below_step hb2 E1.out (by omega))
      rw [← HDR.out] at hi2
      have HI2 := Lib.hid hi2
      have HI1 := Lib.hid (HI1.out.below hb2 (by omega))
      clear hb2 hi2 X1 R1 E1 G2
      have x0 := (X2.out.2 0 _ rfl).1; have x1 := (X2.out.2 1 _ rfl).1; have x2 := (X2.out.2 2 _ rfl).1; have x3 := (X2.out.2 3 _ rfl).1; have x4 := (X2.out.2 4 _ rfl).1; have x5 := (X2.out.2 5 _ rfl).1
      have f0 := (X2.out.2 0 _ rfl).2; have f1 := (X2.out.2 1 _ rfl).2; have f2 := (X2.out.2 2 _ rfl).2; have f3 := (X2.out.2 3 _ rfl).2; have f4 := (X2.out.2 4 _ rfl).2; have f5 := (X2.out.2 5 _ rfl).2
      go_upto_region 4 with (fail)
      clear x0 x1 x2 x3 x4 x5
      clear f0 f1 f2 f3 f4 f5
      refine wp_rename (fun w3 => Hid (Box w3 w.heap.size [.slice (A) n c, .int .i64 (p), .slice (A') n' c', .int .i64 (q), .slice (A5) n5 c5, .int .i64 (z)]) ∧ Hid (Box w3 (w.heap.size + 1) [.slice none 0 0, .int .i64 0, .slice none 0 0, .int .i64 0, .slice none 0 0, .int .i64 0]) ∧ Hid (Below w.heap.size w w3) ∧ Hid (RowI w3 w0.heap.size w1.heap.size A6 n2 c6 (R.take n2)) ∧ Hid (RowI w3 w1.heap.size w2.heap.size A5 n5 c5 (R.drop n2)) ∧ w3.heap.size = w2.heap.size) ⟨?_, ?_, ?_, ?_, ?_, ?_⟩ ?_
      · have hx := X2.out.put (i := 4) (by simp) (.slice A5 n5 c5)
        show Box _ _ _
        simpa using hx
      · show Box _ _ _
        (repeat (with_reducible refine Box.set_ ?_ (by omega) _))
        exact R2.out
      · show Below _ _ _
        (repeat (with_reducible refine below_set ?_ (by omega) _))
        exact E2.out
      · show RowI _ _ _ _ _ _ _
        (repeat (with_reducible refine RowI.set_ ?_ (by omega) _))
        exact HI1.out
      · show RowI _ _ _ _ _ _ _
        (repeat (with_reducible refine RowI.set_ ?_ (by omega) _))
        exact HI2.out
      · simp only [World.size_setCell]
      clear X2 R2 E2 HI1 HI2
      rintro w3 ⟨X2, R2, E2, HI1, HI2, s3⟩
      have gr := R2.out.lt
      have x0 := (X2.out.2 0 _ rfl).1; have x1 := (X2.out.2 1 _ rfl).1; have x2 := (X2.out.2 2 _ rfl).1; have x3 := (X2.out.2 3 _ rfl).1; have x4 := (X2.out.2 4 _ rfl).1; have x5 := (X2.out.2 5 _ rfl).1
      have r0 := (R2.out.2 0 _ rfl).1; have r1 := (R2.out.2 1 _ rfl).1; have r2 := (R2.out.2 2 _ rfl).1; have r3 := (R2.out.2 3 _ rfl).1; have r4 := (R2.out.2 4 _ rfl).1; have r5 := (R2.out.2 5 _ rfl).1
      have g0 := (R2.out.2 0 _ rfl).2; have g1 := (R2.out.2 1 _ rfl).2; have g2 := (R2.out.2 2 _ rfl).2; have g3 := (R2.out.2 3 _ rfl).2; have g4 := (R2.out.2 4 _ rfl).2; have g5 := (R2.out.2 5 _ rfl).2
      go_wp2
      refine bodyPost_ret (v := .tuple #[.agg #[.slice (A) n c, .int .i64 (p), .slice (A') n' c', .int .i64 (q), .slice (A5) n5 c5, .int .i64 (z)], .slice A6 n2 c6]) (by simp [results, Try.results46, go_sem, r0, r1, r2, r3, r4, r5, g0, g1, g2, g3, g4, g5, gr]) rfl ?_
      refine ⟨A6, c6, A5, n5, c5, w1.heap.size, rfl, hc6, hc5, ?_, by omega, ?_, ?_, ?_⟩
      · (repeat (with_reducible refine below_set ?_ (by omega) _))
        exact E2.out
      · simp only [World.size_setCell]; omega
      · refine RowI.more (lo := w0.heap.size) (hi := w1.heap.size) ?_ (by omega) (Nat.le_refl _)
        (repeat (with_reducible refine RowI.set_ ?_ (by omega) _))
        exact HI1.out
      · simp only [World.size_setCell]
        refine RowI.more (lo := w1.heap.size) (hi := w2.heap.size) ?_ (Nat.le_refl _) (by omega)
        (repeat (with_reducible refine RowI.set_ ?_ (by omega) _))
        exact HI2.out
    · go_wp2_with fail
      refine (copyInts_row (G1.out.ints.take hmn) (by omega) (by omega)).mono ?_
      rintro e w1 ⟨A6, n6, c6, rfl, hc6, hb1, hi1⟩
      obtain rfl : n2 = n6 := by have := hi1.len; rw [List.length_take, ← HG.out] at this; omega
      have s1 := hb1.size
      have X1 := Lib.hid (X0.out.below hb1 (by omega))
      have R1 := Lib.hid (R0.out.below hb1 (by omega))
      have E1 := Lib.hid (below_step hb1 E0.out (by omega))
      have HI1 := Lib.hid hi1
      have G2 := Lib.hid (G1.out.below hb1 (by omega))
      clear hb1 hi1 X0 R0 E0 G1
      clear x0 x1 x2 x3 x4 x5
      have x0 := (X1.out.2 0 _ rfl).1; have x1 := (X1.out.2 1 _ rfl).1; have x2 := (X1.out.2 2 _ rfl).1; have x3 := (X1.out.2 3 _ rfl).1; have x4 := (X1.out.2 4 _ rfl).1; have x5 := (X1.out.2 5 _ rfl).1
      go_wp2_with fail
      clear x0 x1 x2 x3 x4 x5
      refine (copyInts_row (Ints.nil w1 0 0 0 _).1 (by omega) (by omega)).mono ?_
      rintro e w2 ⟨A5, n5, c5, rfl, hc5, hb2, hi2⟩
      have s2 := hb2.size
      have X2 := Lib.hid (X1.out.below hb2 (by omega))
      have R2 := Lib.hid (R1.out.below hb2 (by omega))
      have E2 := Lib.hid (below_step hb2 E1.out (by omega))
      rw [← HDR.out] at hi2
      have HI2 := Lib.hid hi2
      have HI1 := Lib.hid (HI1.out.below hb2 (by omega))
      clear hb2 hi2 X1 R1 E1 G2
      have x0 := (X2.out.2 0 _ rfl).1; have x1 := (X2.out.2 1 _ rfl).1; have x2 := (X2.out.2 2 _ rfl).1; have x3 := (X2.out.2 3 _ rfl).1; have x4 := (X2.out.2 4 _ rfl).1; have x5 := (X2.out.2 5 _ rfl).1
      have f0 := (X2.out.2 0 _ rfl).2; have f1 := (X2.out.2 1 _ rfl).2; have f2 := (X2.out.2 2 _ rfl).2; have f3 := (X2.out.2 3 _ rfl).2; have f4 := (X2.out.2 4 _ rfl).2; have f5 := (X2.out.2 5 _ rfl).2
      go_upto_region 4 with (fail)
      clear x0 x1 x2 x3 x4 x5
      clear f0 f1 f2 f3 f4 f5
      refine wp_rename (fun w3 => Hid (Box w3 w.heap.size [.slice (A) n c, .int .i64 (p), .slice (A') n' c', .int .i64 (q), .slice (A5) n5 c5, .int .i64 (z)]) ∧ Hid (Box w3 (w.heap.size + 1) [.slice none 0 0, .int .i64 0, .slice none 0 0, .int .i64 0, .slice none 0 0, .int .i64 0]) ∧ Hid (Below w.heap.size w w3) ∧ Hid (RowI w3 w0.heap.size w1.heap.size A6 n2 c6 (R.take n2)) ∧ Hid (RowI w3 w1.heap.size w2.heap.size A5 n5 c5 (R.drop n2)) ∧ w3.heap.size = w2.heap.size) ⟨?_, ?_, ?_, ?_, ?_, ?_⟩ ?_
      · have hx := X2.out.put (i := 4) (by simp) (.slice A5 n5 c5)
        show Box _ _ _
        simpa using hx
      · show Box _ _ _
        (repeat (with_reducible refine Box.set_ ?_ (by omega) _))
        exact R2.out
      · show Below _ _ _
        (repeat (with_reducible refine below_set ?_ (by omega) _))
        exact E2.out
      · show RowI _ _ _ _ _ _ _
        (repeat (with_reducible refine RowI.set_ ?_ (by omega) _))
        exact HI1.out
      · show RowI _ _ _ _ _ _ _
        (repeat (with_reducible refine RowI.set_ ?_ (by omega) _))
        exact HI2.out
      · simp only [World.size_setCell]
      clear X2 R2 E2 HI1 HI2
      rintro w3 ⟨X2, R2, E2, HI1, HI2, s3⟩
      have gr := R2.out.lt
      have x0 := (X2.out.2 0 _ rfl).1; have x1 := (X2.out.2 1 _ rfl).1; have x2 := (X2.out.2 2 _ rfl).1; have x3 := (X2.out.2 3 _ rfl).1; have x4 := (X2.out.2 4 _ rfl).1; have x5 := (X2.out.2 5 _ rfl).1
      have r0 := (R2.out.2 0 _ rfl).1; have r1 := (R2.out.2 1 _ rfl).1; have r2 := (R2.out.2 2 _ rfl).1; have r3 := (R2.out.2 3 _ rfl).1; have r4 := (R2.out.2 4 _ rfl).1; have r5 := (R2.out.2 5 _ rfl).1
      have g0 := (R2.out.2 0 _ rfl).2; have g1 := (R2.out.2 1 _ rfl).2; have g2 := (R2.out.2 2 _ rfl).2; have g3 := (R2.out.2 3 _ rfl).2; have g4 := (R2.out.2 4 _ rfl).2; have g5 := (R2.out.2 5 _ rfl).2
      go_wp2
      refine bodyPost_ret (v := .tuple #[.agg #[.slice (A) n c, .int .i64 (p), .slice (A') n' c', .int .i64 (q), .slice (A5) n5 c5, .int .i64 (z)], .slice A6 n2 c6]) (by simp [results, Try.results46, go_sem, r0, r1, r2, r3, r4, r5, g0, g1, g2, g3, g4, g5, gr]) rfl ?_
      refine ⟨A6, c6, A5, n5, c5, w1.heap.size, rfl, hc6, hc5, ?_, by omega, ?_, ?_, ?_⟩
      · (repeat (with_reducible refine below_set ?_ (by omega) _))
        exact E2.out
      · simp only [World.size_setCell]; omega
      · refine RowI.more (lo := w0.heap.size) (hi := w1.heap.size) ?_ (by omega) (Nat.le_refl _)
        (repeat (with_reducible refine RowI.set_ ?_ (by omega) _))
        exact HI1.out
      · simp only [World.size_setCell]
        refine RowI.more (lo := w1.heap.size) (hi := w2.heap.size) ?_ (Nat.le_refl _) (by omega)
        (repeat (with_reducible refine RowI.set_ ?_ (by omega) _))
        exact HI2.out
  · have hge : ¬ (n2 : Int) < (k : Int) := by omega
    have hkc : (k : Int) ≤ (n2 : Int) := by omega
    have hkcc : (k : Int) ≤ (c2 : Int) := by omega
    obtain rfl : k = m := by omega
    have hmn : k ≤ n2 := by omega
    clear hm
    by_cases hcm : c2 = k
    · go_wp2_with fail
      refine (copyInts_row (G1.out.ints.take hmn) (by omega) (by omega)).mono ?_
      rintro e w1 ⟨A6, n6, c6, rfl, hc6, hb1, hi1⟩
      obtain rfl : k = n6 := by have := hi1.len; rw [List.length_take, ← HG.out] at this; omega
      have s1 := hb1.size
      have X1 := Lib.hid (X0.out.below hb1 (by omega))
      have R1 := Lib.hid (R0.out.below hb1 (by omega))
      have E1 := Lib.hid (below_step hb1 E0.out (by omega))
      have HI1 := Lib.hid hi1
      have G2 := Lib.hid (G1.out.below hb1 (by omega))
      clear hb1 hi1 X0 R0 E0 G1
      clear x0 x1 x2 x3 x4 x5
      have x0 := (X1.out.2 0 _ rfl).1; have x1 := (X1.out.2 1 _ rfl).1; have x2 := (X1.out.2 2 _ rfl).1; have x3 := (X1.out.2 3 _ rfl).1; have x4 := (X1.out.2 4 _ rfl).1; have x5 := (X1.out.2 5 _ rfl).1
      go_wp2_with fail
      clear x0 x1 x2 x3 x4 x5
      refine (copyInts_row (G2.out.ints.dropped (a := k) (by omega) A2) (by omega) (by omega)).mono ?_
      rintro e w2 ⟨A5, n5, c5, rfl, hc5, hb2, hi2⟩
      have s2 := hb2.size
      have X2 := Lib.hid (X1.out.below hb2 (by omega))
      have R2 := Lib.hid (R1.out.below hb2 (by omega))
      have E2 := Lib.hid (below_step hb2 E1.out (by omega))
      have HI2 := Lib.hid hi2
      have HI1 := Lib.hid (HI1.out.below hb2 (by omega))
      clear hb2 hi2 X1 R1 E1 G2
      have x0 := (X2.out.2 0 _ rfl).1; have x1 := (X2.out.2 1 _ rfl).1; have x2 := (X2.out.2 2 _ rfl).1; have x3 := (X2.out.2 3 _ rfl).1; have x4 := (X2.out.2 4 _ rfl).1; have x5 := (X2.out.2 5 _ rfl).1
      have f0 := (X2.out.2 0 _ rfl).2; have f1 := (X2.out.2 1 _ rfl).2; have f2 := (X2.out.2 2 _ rfl).2; have f3 := (X2.out.2 3 _ rfl).2; have f4 := (X2.out.2 4 _ rfl).2; have f5 := (X2.out.2 5 _ rfl).2
      go_upto_region 4 with (fail)
      clear x0 x1 x2 x3 x4 x5
      clear f0 f1 f2 f3 f4 f5
      refine wp_rename (fun w3 => Hid (Box w3 w.heap.size [.slice (A) n c, .int .i64 (p), .slice (A') n' c', .int .i64 (q), .slice (A5) n5 c5, .int .i64 (z)]) ∧ Hid (Box w3 (w.heap.size + 1) [.slice none 0 0, .int .i64 0, .slice none 0 0, .int .i64 0, .slice none 0 0, .int .i64 0]) ∧ Hid (Below w.heap.size w w3) ∧ Hid (RowI w3 w0.heap.size w1.heap.size A6 k c6 (R.take k)) ∧ Hid (RowI w3 w1.heap.size w2.heap.size A5 n5 c5 (R.drop k)) ∧ w3.heap.size = w2.heap.size) ⟨?_, ?_, ?_, ?_, ?_, ?_⟩ ?_
      · have hx := X2.out.put (i := 4) (by simp) (.slice A5 n5 c5)
        show Box _ _ _
        simpa using hx
      · show Box _ _ _
        (repeat (with_reducible refine Box.set_ ?_ (by omega) _))
        exact R2.out
      · show Below _ _ _
        (repeat (with_reducible refine below_set ?_ (by omega) _))
        exact E2.out
      · show RowI _ _ _ _ _ _ _
        (repeat (with_reducible refine RowI.set_ ?_ (by omega) _))
        exact HI1.out
      · show RowI _ _ _ _ _ _ _
        (repeat (with_reducible refine RowI.set_ ?_ (by omega) _))
        exact HI2.out
      · simp only [World.size_setCell]
      clear X2 R2 E2 HI1 HI2
      rintro w3 ⟨X2, R2, E2, HI1, HI2, s3⟩
      have gr := R2.out.lt
      have x0 := (X2.out.2 0 _ rfl).1; have x1 := (X2.out.2 1 _ rfl).1; have x2 := (X2.out.2 2 _ rfl).1; have x3 := (X2.out.2 3 _ rfl).1; have x4 := (X2.out.2 4 _ rfl).1; have x5 := (X2.out.2 5 _ rfl).1
      have r0 := (R2.out.2 0 _ rfl).1; have r1 := (R2.out.2 1 _ rfl).1; have r2 := (R2.out.2 2 _ rfl).1; have r3 := (R2.out.2 3 _ rfl).1; have r4 := (R2.out.2 4 _ rfl).1; have r5 := (R2.out.2 5 _ rfl).1
      have g0 := (R2.out.2 0 _ rfl).2; have g1 := (R2.out.2 1 _ rfl).2; have g2 := (R2.out.2 2 _ rfl).2; have g3 := (R2.out.2 3 _ rfl).2; have g4 := (R2.out.2 4 _ rfl).2; have g5 := (R2.out.2 5 _ rfl).2
      go_wp2
      refine bodyPost_ret (v := .tuple #[.agg #[.slice (A) n c, .int .i64 (p), .slice (A') n' c', .int .i64 (q), .slice (A5) n5 c5, .int .i64 (z)], .slice A6 k c6]) (by simp [results, Try.results46, go_sem, r0, r1, r2, r3, r4, r5, g0, g1, g2, g3, g4, g5, gr]) rfl ?_
      refine ⟨A6, c6, A5, n5, c5, w1.heap.size, rfl, hc6, hc5, ?_, by omega, ?_, ?_, ?_⟩
      · (repeat (with_reducible refine below_set ?_ (by omega) _))
        exact E2.out
      · simp only [World.size_setCell]; omega
      · refine RowI.more (lo := w0.heap.size) (hi := w1.heap.size) ?_ (by omega) (Nat.le_refl _)
        (repeat (with_reducible refine RowI.set_ ?_ (by omega) _))
        exact HI1.out
      · simp only [World.size_setCell]
        refine RowI.more (lo := w1.heap.size) (hi := w2.heap.size) ?_ (Nat.le_refl _) (by omega)
        (repeat (with_reducible refine RowI.set_ ?_ (by omega) _))
        exact HI2.out
    · go_wp2_with fail
      refine (copyInts_row (G1.out.ints.take hmn) (by omega) (by omega)).mono ?_
      rintro e w1 ⟨A6, n6, c6, rfl, hc6, hb1, hi1⟩
      obtain rfl : k = n6 := by have := hi1.len; rw [List.length_take, ← HG.out] at this; omega
      have s1 := hb1.size
      have X1 := Lib.hid (X0.out.below hb1 (by omega))
      have R1 := Lib.hid (R0.out.below hb1 (by omega))
      have E1 := Lib.hid (below_step hb1 E0.out (by omega))
      have HI1 := Lib.hid hi1
      have G2 := Lib.hid (G1.out.below hb1 (by omega))
      clear hb1 hi1 X0 R0 E0 G1
      clear x0 x1 x2 x3 x4 x5
      have x0 := (X1.out.2 0 _ rfl).1; have x1 := (X1.out.2 1 _ rfl).1; have x2 := (X1.out.2 2 _ rfl).1; have x3 := (X1.out.2 3 _ rfl).1; have x4 := (X1.out.2 4 _ rfl).1; have x5 := (X1.out.2 5 _ rfl).1
      go_wp2_with fail
      clear x0 x1 x2 x3 x4 x5
      refine (copyInts_row (G2.out.ints.drop hmn) (by omega) (by omega)).mono ?_
      rintro e w2 ⟨A5, n5, c5, rfl, hc5, hb2, hi2⟩
      have s2 := hb2.size
      have X2 := Lib.hid (X1.out.below hb2 (by omega))
      have R2 := Lib.hid (R1.out.below hb2 (by omega))
      have E2 := Lib.hid (below_step hb2 E1.out (by omega))
      have HI2 := Lib.hid hi2
      have HI1 := Lib.hid (HI1.out.below hb2 (by omega))
      clear hb2 hi2 X1 R1 E1 G2
      have x0 := (X2.out.2 0 _ rfl).1; have x1 := (X2.out.2 1 _ rfl).1; have x2 := (X2.out.2 2 _ rfl).1; have x3 := (X2.out.2 3 _ rfl).1; have x4 := (X2.out.2 4 _ rfl).1; have x5 := (X2.out.2 5 _ rfl).1
      have f0 := (X2.out.2 0 _ rfl).2; have f1 := (X2.out.2 1 _ rfl).2; have f2 := (X2.out.2 2 _ rfl).2; have f3 := (X2.out.2 3 _ rfl).2; have f4 := (X2.out.2 4 _ rfl).2; have f5 := (X2.out.2 5 _ rfl).2
      go_upto_region 4 with (fail)
      clear x0 x1 x2 x3 x4 x5
      clear f0 f1 f2 f3 f4 f5
      refine wp_rename (fun w3 => Hid (Box w3 w.heap.size [.slice (A) n c, .int .i64 (p), .slice (A') n' c', .int .i64 (q), .slice (A5) n5 c5, .int .i64 (z)]) ∧ Hid (Box w3 (w.heap.size + 1) [.slice none 0 0, .int .i64 0, .slice none 0 0, .int .i64 0, .slice none 0 0, .int .i64 0]) ∧ Hid (Below w.heap.size w w3) ∧ Hid (RowI w3 w0.heap.size w1.heap.size A6 k c6 (R.take k)) ∧ Hid (RowI w3 w1.heap.size w2.heap.size A5 n5 c5 (R.drop k)) ∧ w3.heap.size = w2.heap.size) ⟨?_, ?_, ?_, ?_, ?_, ?_⟩ ?_
      · have hx := X2.out.put (i := 4) (by simp) (.slice A5 n5 c5)
        show Box _ _ _
        simpa using hx
      · show Box _ _ _
        (repeat (with_reducible refine Box.set_ ?_ (by omega) _))
        exact R2.out
      · show Below _ _ _
        (repeat (with_reducible refine below_set ?_ (by omega) _))
        exact E2.out
      · show RowI _ _ _ _ _ _ _
        (repeat (with_reducible refine RowI.set_ ?_ (by omega) _))
        exact HI1.out
      · show RowI _ _ _ _ _ _ _
        (repeat (with_reducible refine RowI.set_ ?_ (by omega) _))
        exact HI2.out
      · simp only [World.size_setCell]
      clear X2 R2 E2 HI1 HI2
      rintro w3 ⟨X2, R2, E2, HI1, HI2, s3⟩
      have gr := R2.out.lt
      have x0 := (X2.out.2 0 _ rfl).1; have x1 := (X2.out.2 1 _ rfl).1; have x2 := (X2.out.2 2 _ rfl).1; have x3 := (X2.out.2 3 _ rfl).1; have x4 := (X2.out.2 4 _ rfl).1; have x5 := (X2.out.2 5 _ rfl).1
      have r0 := (R2.out.2 0 _ rfl).1; have r1 := (R2.out.2 1 _ rfl).1; have r2 := (R2.out.2 2 _ rfl).1; have r3 := (R2.out.2 3 _ rfl).1; have r4 := (R2.out.2 4 _ rfl).1; have r5 := (R2.out.2 5 _ rfl).1
      have g0 := (R2.out.2 0 _ rfl).2; have g1 := (R2.out.2 1 _ rfl).2; have g2 := (R2.out.2 2 _ rfl).2; have g3 := (R2.out.2 3 _ rfl).2; have g4 := (R2.out.2 4 _ rfl).2; have g5 := (R2.out.2 5 _ rfl).2
      go_wp2
      refine bodyPost_ret (v := .tuple #[.agg #[.slice (A) n c, .int .i64 (p), .slice (A') n' c', .int .i64 (q), .slice (A5) n5 c5, .int .i64 (z)], .slice A6 k c6]) (by simp [results, Try.results46, go_sem, r0, r1, r2, r3, r4, r5, g0, g1, g2, g3, g4, g5, gr]) rfl ?_
      refine ⟨A6, c6, A5, n5, c5, w1.heap.size, rfl, hc6, hc5, ?_, by omega, ?_, ?_, ?_⟩
      · (repeat (with_reducible refine below_set ?_ (by omega) _))
        exact E2.out
      · simp only [World.size_setCell]; omega
      · refine RowI.more (lo := w0.heap.size) (hi := w1.heap.size) ?_ (by omega) (Nat.le_refl _)
        (repeat (with_reducible refine RowI.set_ ?_ (by omega) _))
        exact HI1.out
      · simp only [World.size_setCell]
        refine RowI.more (lo := w1.heap.size) (hi := w2.heap.size) ?_ (Nat.le_refl _) (by omega)
        (repeat (with_reducible refine RowI.set_ ?_ (by omega) _))
        exact HI2.out

/-- What the model's loops give: the same memory but for what is read ahead, and a list in new memory. -/
def SWorkPostO (A : Option Addr) (n c : Nat) (A' : Option Addr) (n' c' : Nat) (z : Int) (A2 : Option Addr) (n2 M C : Nat) (o : Rs) (w : World) (e : Ending) (w' : World) : Prop :=
  ∃ A1 n1 c1 A5 n5 c5 M' C', e = .returned (.tuple #[.agg #[.slice (A) n c, .int .i64 (o.p), .slice (A') n' c', .int .i64 ((o.a : Int)), .slice (A5) n5 c5, .int .i64 (z)], .slice A1 n1 c1, .int .i64 o.st]) ∧ n1 ≤ c1 ∧ n5 ≤ c5 ∧ Below w.heap.size w w' ∧ RowI w' M' C' A5 n5 c5 o.r ∧ C' ≤ w'.heap.size ∧ ((A5 = A2 ∧ n5 = n2 ∧ M' = M ∧ C' = C) ∨ w.heap.size ≤ M') ∧ Ints w' w.heap.size w'.heap.size A1 n1 o.out ∧ Apart A1 n1 A5 n5
set_option maxHeartbeats 4000000 in
theorem sReadFull0_own {A A' A2 : Option Addr} {n c n' c' n2 c2 a N : Nat} {D S R : List Int} {p z : Int} {w : World} {L L' B B' M C : Nat} (h : Ints w L B A n D) (h' : Ints w L' B' A' n' S) (g : RowI w M C A2 n2 c2 R) (hB : B ≤ w.heap.size) (hB' : B' ≤ w.heap.size) (hC : C ≤ w.heap.size)
    (hnc : n ≤ c) (hn2 : n2 ≤ c2) (hv : validD D p S (a : Int) = true) (ha : a ≤ 900) (hz : 1 ≤ z) (hz' : z ≤ 60) (hK : R.length + (D.length - p.toNat) ≤ 60) (hN : N ≤ 61) :
    Calls Try.prog 52 #[.agg #[.slice (A) n c, .int .i64 (p), .slice (A') n' c', .int .i64 ((a : Int)), .slice (A2) n2 c2, .int .i64 (z)], .int .i64 (N : Int)] w (SWorkPostO A n c A' n' c' z A2 n2 M C (fullGo D S z N 62 p a R []) w) := by
  obtain ⟨T, hT⟩ : ∃ T, fullGo D S z N 62 p a R [] = T := ⟨_, rfl⟩
  rw [hT]
  have HT := Lib.hid hT
  have HV := Lib.hid hv
  have G1 : Hid (RowI ((w.alloc (.cells #[.slice (A) n c, .int .i64 (p), .slice (A') n' c', .int .i64 ((a : Int)), .slice (A2) n2 c2, .int .i64 (z)] 27)).alloc (.cells #[.slice none 0 0, .int .i64 0, .slice none 0 0, .int .i64 0, .slice none 0 0, .int .i64 0] 27)) M C A2 n2 c2 R) := (g.alloc hC _).alloc (by first | omega | (simp; omega) | (simp; done)) _
  have X0 : Hid (Box ((w.alloc (.cells #[.slice (A) n c, .int .i64 (p), .slice (A') n' c', .int .i64 ((a : Int)), .slice (A2) n2 c2, .int .i64 (z)] 27)).alloc (.cells #[.slice none 0 0, .int .i64 0, .slice none 0 0, .int .i64 0, .slice none 0 0, .int .i64 0] 27)) w.heap.size [.slice (A) n c, .int .i64 (p), .slice (A') n' c', .int .i64 ((a : Int)), .slice (A2) n2 c2, .int .i64 (z)]) := (Box.new w 27 [.slice (A) n c, .int .i64 (p), .slice (A') n' c', .int .i64 ((a : Int)), .slice (A2) n2 c2, .int .i64 (z)]).alloc _
  have R0 : Hid (Box ((w.alloc (.cells #[.slice (A) n c, .int .i64 (p), .slice (A') n' c', .int .i64 ((a : Int)), .slice (A2) n2 c2, .int .i64 (z)] 27)).alloc (.cells #[.slice none 0 0, .int .i64 0, .slice none 0 0, .int .i64 0, .slice none 0 0, .int .i64 0] 27)) (w.heap.size + 1) [.slice none 0 0, .int .i64 0, .slice none 0 0, .int .i64 0, .slice none 0 0, .int .i64 0]) := by
    have hx := Box.new (w.alloc (.cells #[.slice (A) n c, .int .i64 (p), .slice (A') n' c', .int .i64 ((a : Int)), .slice (A2) n2 c2, .int .i64 (z)] 27)) 27 [.slice none 0 0, .int .i64 0, .slice none 0 0, .int .i64 0, .slice none 0 0, .int .i64 0]
    rw [World.size_alloc] at hx
    exact hx
  have E0 : Hid (Below w.heap.size w ((w.alloc (.cells #[.slice (A) n c, .int .i64 (p), .slice (A') n' c', .int .i64 ((a : Int)), .slice (A2) n2 c2, .int .i64 (z)] 27)).alloc (.cells #[.slice none 0 0, .int .i64 0, .slice none 0 0, .int .i64 0, .slice none 0 0, .int .i64 0] 27))) := (by go_grown : Below w.heap.size w _)
  have s0 : (((w.alloc (.cells #[.slice (A) n c, .int .i64 (p), .slice (A') n' c', .int .i64 ((a : Int)), .slice (A2) n2 c2, .int .i64 (z)] 27)).alloc (.cells #[.slice none 0 0, .int .i64 0, .slice none 0 0, .int .i64 0, .slice none 0 0, .int .i64 0] 27))).heap.size = w.heap.size + 2 := by simp
  have HD := Lib.hid h
  have HS := Lib.hid h'
  clear g hT hv h h'
  go_enter Try.func52, Try.ntmps52
  go_upto_region 1 with (fail)
  refine wp_rename (fun w0 => Hid (RowI w0 M C A2 n2 c2 R) ∧ Hid (Box w0 w.heap.size [.slice (A) n c, .int .i64 (p), .slice (A') n' c', .int .i64 ((a : Int)), .slice (A2) n2 c2, .int .i64 (z)]) ∧ Hid (Box w0 (w.heap.size + 1) [.slice none 0 0, .int .i64 0, .slice none 0 0, .int .i64 0, .slice none 0 0, .int .i64 0]) ∧ Hid (Below w.heap.size w w0) ∧ w0.heap.size = w.heap.size + 2) ⟨G1, X0, R0, E0, s0⟩ ?_
  clear G1 X0 R0 E0 s0
  rintro w0 ⟨G1, X0, R0, E0, s0⟩
  go_wp2
  go_loopw [7] (fun o wr => ∃ (j m co : Nat) (Ao : Option Addr) (out : List Int) (p' : Int) (a' : Nat) (R' : List Int) (A5 : Option Addr) (n5 c5 M' C' : Nat), o = .slice Ao m co ∧ j ≤ m ∧ m ≤ N ∧ m ≤ 60 ∧ a' ≤ a + m ∧ n5 ≤ c5 ∧ w.heap.size + 2 ≤ wr.heap.size ∧ C' ≤ wr.heap.size ∧ ((A5 = A2 ∧ n5 = n2 ∧ M' = M ∧ C' = C) ∨ w.heap.size + 2 ≤ M') ∧ Hid (OwnI wr (w.heap.size + 2) (.slice Ao m co) m out) ∧ Hid (∀ x ∈ out, okInt x) ∧ Hid (Clear (.slice Ao m co) M' C') ∧ Hid (Below w.heap.size w wr) ∧ Hid (Box wr w.heap.size [.slice (A) n c, .int .i64 (p'), .slice (A') n' c', .int .i64 ((a' : Int)), .slice (A5) n5 c5, .int .i64 (z)]) ∧ Hid (Box wr (w.heap.size + 1) [.slice none 0 0, .int .i64 0, .slice none 0 0, .int .i64 0, .slice none 0 0, .int .i64 0]) ∧ Hid (RowI wr M' C' A5 n5 c5 R') ∧ Hid (validD D p' S (a' : Int) = true) ∧ m + R'.length + (D.length - p'.toNat) ≤ 60 ∧ Hid (fullGo D S z N (62 - j) p' a' R' out = T)) (fun o _ => N - lenV o)
  case atStart =>
    refine ⟨0, 0, 0, some ⟨w.heap.size + 2, 0, none⟩, [], p, a, R, A2, n2, c2, M, C, rfl, by omega, by omega, by omega, by omega, hn2, by simp; omega, by simp; omega, .inl ⟨rfl, rfl, rfl, rfl⟩, (by have h := OwnI.made w0 (base := w.heap.size + 2) (by omega); rw [s0] at h; exact h), fun x hx => (by cases hx), ?_, E0.out.alloc (by omega) _, X0.out.alloc _, R0.out.alloc _, G1.out.alloc (by omega) _, HV, by omega, HT⟩
    intro k hk
    injection hk with hk
    have hk2 : w.heap.size + 2 = k := hk
    exact .inr (by omega)
  case round =>
    clear G1 X0 R0 E0 s0 HV HT
    obtain ⟨j, m, co, Ao, out, p', a', R', A5, n5, c5, M', C', rfl, hj, hm, hm60, ha', hc5, hsz, hC', hor, ho, hok, hcl, hb, hX, hR0, hR, hv, hk, hg⟩ := hrel
    have hml : m = out.length := ho.out.len
    by_cases hlt : m < N
    · have hlti : (m : Int) < (N : Int) := by omega
      obtain ⟨k, hkN⟩ : ∃ k : Nat, k = N - m := ⟨_, rfl⟩
      have hw : IntKind.i64.wrap ((N : Int) - (m : Int)) = (k : Int) := by rw [IntWalk.i64_in _ (by omega)]; omega
      obtain ⟨hv1, hk1, hpos, ha1⟩ := fl_step (R := R') hv.out (by omega) hz
      have hrec := hg.out
      rw [show 62 - j = (62 - (j + 1)) + 1 from by omega, fullGo, if_neg (by omega)] at hrec
      have HREC := Lib.hid hrec
      have HV1 := Lib.hid hv1
      have HKN := Lib.hid hkN
      have HML := Lib.hid hml
      have HP := Lib.hid hpos
      clear hrec hg hv1 hkN hml hpos
      have x0 := (hX.out.2 0 _ rfl).1; have x1 := (hX.out.2 1 _ rfl).1; have x2 := (hX.out.2 2 _ rfl).1; have x3 := (hX.out.2 3 _ rfl).1; have x4 := (hX.out.2 4 _ rfl).1; have x5 := (hX.out.2 5 _ rfl).1
      go_wp2_with fail
      clear x0 x1 x2 x3 x4 x5
      refine (filled_own (HD.out.below hb.out hB) (HS.out.below hb.out hB') hR.out (by omega) (by omega) (by omega) hnc hc5 hv.out (by omega) hz hz').mono ?_
      rintro e w1 ⟨A6, n6, c6, M6, C6, rfl, hc6, hb1, hi1, hC6, hor1⟩
      have hs1 := hb1.size
      have HO1 := Lib.hid (ho.out.below hb1 (Nat.le_refl _))
      have X1 := Lib.hid (hX.out.below hb1 (by omega))
      have R1 := Lib.hid (hR0.out.below hb1 (by omega))
      have E1 := Lib.hid (below_step hb1 hb.out (by omega))
      have HI1 := Lib.hid hi1
      have HC1 : Hid (Clear (.slice Ao m co) M6 C6) := by
        show Clear _ _ _
        rcases hor1 with ⟨_, _, rfl, rfl⟩ | h
        · exact hcl.out
        · exact ho.out.clear h
      have hor2 : (A6 = A2 ∧ n6 = n2 ∧ M6 = M ∧ C6 = C) ∨ w.heap.size + 2 ≤ M6 := by
        rcases hor1 with ⟨rfl, rfl, rfl, rfl⟩ | h
        · exact hor
        · exact .inr (by omega)
      have hfar : w.heap.size < M6 ∨ C6 ≤ w.heap.size := by
        rcases hor2 with ⟨_, _, _, rfl⟩ | h
        · exact .inr hC
        · exact .inl (by omega)
      clear hb1 hi1 hor1 hor ho hX hR0 hb hR hcl hv
      obtain ⟨st, hst⟩ : ∃ st, flS D S p' a' R' = st := ⟨_, rfl⟩
      obtain ⟨p1, hp1⟩ : ∃ p1, flP D S z p' a' R' = p1 := ⟨_, rfl⟩
      obtain ⟨a1, ha1'⟩ : ∃ a1, flA a' R' = a1 := ⟨_, rfl⟩
      obtain ⟨R1', hR1'⟩ : ∃ R1', flR D S z p' a' R' = R1' := ⟨_, rfl⟩
      rw [hst, hp1, ha1', hR1'] at HREC
      rw [hst, hR1'] at HP
      rw [hp1, ha1'] at HV1
      rw [hp1, hR1'] at hk1
      rw [ha1'] at ha1
      rw [hR1'] at HI1
      rw [hst, hp1, ha1']
      clear hst hp1 ha1' hR1'
      go_upto_region 4 with (fail)
      refine wp_rename (fun w2 => Hid (Box w2 w1.heap.size [.slice (A) n c, .int .i64 (p1), .slice (A') n' c', .int .i64 ((a1 : Int)), .slice (A6) n6 c6, .int .i64 (z)]) ∧ Hid (Box w2 w.heap.size [.slice (A) n c, .int .i64 (p'), .slice (A') n' c', .int .i64 ((a' : Int)), .slice (A5) n5 c5, .int .i64 (z)]) ∧ Hid (Box w2 (w.heap.size + 1) [.slice none 0 0, .int .i64 0, .slice none 0 0, .int .i64 0, .slice none 0 0, .int .i64 0]) ∧ Hid (Below w.heap.size w w2) ∧ Hid (RowI w2 M6 C6 A6 n6 c6 R1') ∧ Hid (OwnI w2 (w.heap.size + 2) (.slice Ao m co) m out) ∧ w1.heap.size < w2.heap.size) ⟨Box.new w1 27 [.slice (A) n c, .int .i64 (p1), .slice (A') n' c', .int .i64 ((a1 : Int)), .slice (A6) n6 c6, .int .i64 (z)], X1.out.alloc _, R1.out.alloc _, E1.out.alloc (by omega) _, HI1.out.alloc hC6 _, HO1.out.alloc _, by simp⟩ ?_
      clear X1 R1 E1 HI1 HO1
      rintro w2 ⟨Y2, X2, R2, E2, HI2, HO2, s2⟩
      have y0 := (Y2.out.2 0 _ rfl).1; have y1 := (Y2.out.2 1 _ rfl).1; have y2 := (Y2.out.2 2 _ rfl).1; have y3 := (Y2.out.2 3 _ rfl).1; have y4 := (Y2.out.2 4 _ rfl).1; have y5 := (Y2.out.2 5 _ rfl).1
      have x0 := (X2.out.2 0 _ rfl).1; have x1 := (X2.out.2 1 _ rfl).1; have x2 := (X2.out.2 2 _ rfl).1; have x3 := (X2.out.2 3 _ rfl).1; have x4 := (X2.out.2 4 _ rfl).1; have x5 := (X2.out.2 5 _ rfl).1
      have f0 := (X2.out.2 0 _ rfl).2; have f1 := (X2.out.2 1 _ rfl).2; have f2 := (X2.out.2 2 _ rfl).2; have f3 := (X2.out.2 3 _ rfl).2; have f4 := (X2.out.2 4 _ rfl).2; have f5 := (X2.out.2 5 _ rfl).2
      go_upto_region 5 with (fail)
      clear y0 y1 y2 y3 y4 y5
      clear x0 x1 x2 x3 x4 x5
      clear f0 f1 f2 f3 f4 f5
      refine wp_rename (fun w3 => Hid (Box w3 w.heap.size [.slice (A) n c, .int .i64 (p1), .slice (A') n' c', .int .i64 ((a1 : Int)), .slice (A6) n6 c6, .int .i64 (z)]) ∧ Hid (Box w3 (w.heap.size + 1) [.slice none 0 0, .int .i64 0, .slice none 0 0, .int .i64 0, .slice none 0 0, .int .i64 0]) ∧ Hid (Below w.heap.size w w3) ∧ Hid (RowI w3 M6 C6 A6 n6 c6 R1') ∧ Hid (OwnI w3 (w.heap.size + 2) (.slice Ao m co) m out) ∧ w1.heap.size < w3.heap.size) ⟨?_, ?_, ?_, ?_, ?_, ?_⟩ ?_
      · have hx := (((((X2.out.put (i := 0) (by simp) (.slice A n c)).put (i := 1) (by simp) (.int .i64 p1)).put (i := 2) (by simp) (.slice A' n' c')).put (i := 3) (by simp) (.int .i64 (a1 : Int))).put (i := 4) (by simp) (.slice A6 n6 c6)).put (i := 5) (by simp) (.int .i64 z)
        show Box _ _ _
        simpa using hx
      · show Box _ _ _
        (repeat (with_reducible refine Box.set_ ?_ (by omega) _))
        exact R2.out
      · show Below _ _ _
        (repeat (with_reducible refine below_set ?_ (by omega) _))
        exact E2.out
      · show RowI _ _ _ _ _ _ _
        (repeat (with_reducible refine RowI.set_ ?_ (by omega) _))
        exact HI2.out
      · show OwnI _ _ _ _ _
        (repeat (with_reducible refine OwnI.set_ ?_ (by omega) _))
        exact HO2.out
      · simp only [World.size_setCell]; omega
      clear Y2 X2 R2 E2 HI2 HO2 s2
      rintro w3 ⟨X3, R3, E3, HI3, HO3, s3⟩
      by_cases hst : st = 0
      · subst hst
        have hg60 : n6 ≤ 1000 := by have := HI3.out.len; omega
        obtain ⟨mm, hmm⟩ : ∃ mm, mm = min k n6 := ⟨_, rfl⟩
        have hmm2 : mm ≤ k ∧ mm ≤ n6 := by omega
        have hR : Hid (fullGo D S z N (62 - (j + 1)) p1 a1 (List.drop mm R1') (out ++ List.take mm R1') = T) := by
          show _ = T
          have h1 := HREC.out
          have h2 := HI3.out.len
          rw [if_pos rfl, ← HML.out, ← HKN.out, ← h2, ← hmm] at h1
          exact h1
        have hpm : 1 ≤ mm := by have := HP.out rfl; have := HI3.out.len; have := HKN.out; omega
        have HMM := Lib.hid hmm
        have hmN : m + mm ≤ N := by have := HKN.out; omega
        have hmR : mm ≤ R1'.length := by have := HI3.out.len; omega
        have hk1000 : k ≤ 1000 := by have := HKN.out; omega
        clear HREC hmm
        have x0 := (X3.out.2 0 _ rfl).1; have x1 := (X3.out.2 1 _ rfl).1; have x2 := (X3.out.2 2 _ rfl).1; have x3 := (X3.out.2 3 _ rfl).1; have x4 := (X3.out.2 4 _ rfl).1; have x5 := (X3.out.2 5 _ rfl).1
        go_wp2_with fail
        clear x0 x1 x2 x3 x4 x5
        refine (given_own HI3.out (by omega) hc6 hg60 hk1000 HMM.out).mono ?_
        rintro e w4 ⟨A7, c7, A8, n8, c8, Y, rfl, hc7, hc8, hb4, hY1, hY2, hi7, hi8⟩
        have hs4 := hb4.size
        have HO4 := Lib.hid (HO3.out.below hb4 (Nat.le_refl _))
        have X4 := Lib.hid (X3.out.below hb4 (by omega))
        have R4 := Lib.hid (R3.out.below hb4 (by omega))
        have E4 := Lib.hid (below_step hb4 E3.out (by omega))
        have HI7 := Lib.hid hi7
        have HI8 := Lib.hid hi8
        have HC4 : Hid (Clear (.slice Ao m co) Y w4.heap.size) := HO3.out.clear hY1
        clear hb4 hi7 hi8 HO3 X3 R3 E3 HI3 HC1
        go_upto_region 8 with (fail)
        refine wp_rename (fun w5 => Hid (Box w5 w4.heap.size [.slice (A) n c, .int .i64 (p1), .slice (A') n' c', .int .i64 ((a1 : Int)), .slice (A8) n8 c8, .int .i64 (z)]) ∧ Hid (Box w5 w.heap.size [.slice (A) n c, .int .i64 (p1), .slice (A') n' c', .int .i64 ((a1 : Int)), .slice (A6) n6 c6, .int .i64 (z)]) ∧ Hid (Box w5 (w.heap.size + 1) [.slice none 0 0, .int .i64 0, .slice none 0 0, .int .i64 0, .slice none 0 0, .int .i64 0]) ∧ Hid (Below w.heap.size w w5) ∧ Hid (RowI w5 w3.heap.size Y A7 mm c7 (R1'.take mm)) ∧ Hid (RowI w5 Y w4.heap.size A8 n8 c8 (R1'.drop mm)) ∧ Hid (OwnI w5 (w.heap.size + 2) (.slice Ao m co) m out) ∧ w4.heap.size < w5.heap.size) ⟨Box.new w4 27 [.slice (A) n c, .int .i64 (p1), .slice (A') n' c', .int .i64 ((a1 : Int)), .slice (A8) n8 c8, .int .i64 (z)], X4.out.alloc _, R4.out.alloc _, E4.out.alloc (by omega) _, HI7.out.alloc hY2 _, HI8.out.alloc (Nat.le_refl _) _, HO4.out.alloc _, by simp⟩ ?_
        clear X4 R4 E4 HI7 HI8 HO4
        rintro w5 ⟨Y5, X5, R5, E5, HI7, HI8, HO5, s5⟩
        have y0 := (Y5.out.2 0 _ rfl).1; have y1 := (Y5.out.2 1 _ rfl).1; have y2 := (Y5.out.2 2 _ rfl).1; have y3 := (Y5.out.2 3 _ rfl).1; have y4 := (Y5.out.2 4 _ rfl).1; have y5 := (Y5.out.2 5 _ rfl).1
        have x0 := (X5.out.2 0 _ rfl).1; have x1 := (X5.out.2 1 _ rfl).1; have x2 := (X5.out.2 2 _ rfl).1; have x3 := (X5.out.2 3 _ rfl).1; have x4 := (X5.out.2 4 _ rfl).1; have x5 := (X5.out.2 5 _ rfl).1
        have f0 := (X5.out.2 0 _ rfl).2; have f1 := (X5.out.2 1 _ rfl).2; have f2 := (X5.out.2 2 _ rfl).2; have f3 := (X5.out.2 3 _ rfl).2; have f4 := (X5.out.2 4 _ rfl).2; have f5 := (X5.out.2 5 _ rfl).2
        go_upto_region 9 with (fail)
        clear y0 y1 y2 y3 y4 y5
        clear x0 x1 x2 x3 x4 x5
        clear f0 f1 f2 f3 f4 f5
        refine wp_rename (fun w6 => Hid (Box w6 w.heap.size [.slice (A) n c, .int .i64 (p1), .slice (A') n' c', .int .i64 ((a1 : Int)), .slice (A8) n8 c8, .int .i64 (z)]) ∧ Hid (Box w6 (w.heap.size + 1) [.slice none 0 0, .int .i64 0, .slice none 0 0, .int .i64 0, .slice none 0 0, .int .i64 0]) ∧ Hid (Below w.heap.size w w6) ∧ Hid (RowI w6 w3.heap.size Y A7 mm c7 (R1'.take mm)) ∧ Hid (RowI w6 Y w4.heap.size A8 n8 c8 (R1'.drop mm)) ∧ Hid (OwnI w6 (w.heap.size + 2) (.slice Ao m co) m out) ∧ w4.heap.size < w6.heap.size) ⟨?_, ?_, ?_, ?_, ?_, ?_, ?_⟩ ?_
        · have hx := (((((X5.out.put (i := 0) (by simp) (.slice A n c)).put (i := 1) (by simp) (.int .i64 p1)).put (i := 2) (by simp) (.slice A' n' c')).put (i := 3) (by simp) (.int .i64 (a1 : Int))).put (i := 4) (by simp) (.slice A8 n8 c8)).put (i := 5) (by simp) (.int .i64 z)
          show Box _ _ _
          simpa using hx
        · show Box _ _ _
          (repeat (with_reducible refine Box.set_ ?_ (by omega) _))
          exact R5.out
        · show Below _ _ _
          (repeat (with_reducible refine below_set ?_ (by omega) _))
          exact E5.out
        · show RowI _ _ _ _ _ _ _
          (repeat (with_reducible refine RowI.set_ ?_ (by omega) _))
          exact HI7.out
        · show RowI _ _ _ _ _ _ _
          (repeat (with_reducible refine RowI.set_ ?_ (by omega) _))
          exact HI8.out
        · show OwnI _ _ _ _ _
          (repeat (with_reducible refine OwnI.set_ ?_ (by omega) _))
          exact HO5.out
        · simp only [World.size_setCell]; omega
        clear Y5 X5 R5 E5 HI7 HI8 HO5 s5
        rintro w6 ⟨X6, R6, E6, HI7, HI8, HO6, s6⟩
        go_wp2_with (at_builtin; refine wpList_append_at rfl _ _ rfl (w.heap.size + 2) (.slice Ao m co) m _ rfl HO6.out _ mm c7 _ rfl HI7.out.ints (by omega) (by omega) ?_)
        intro v' w7 hown hgr hob
        have hok2 : ∀ x ∈ out ++ List.take mm R1', okInt x := by
          intro x hx
          rcases List.mem_append.1 hx with h | h
          · exact hok.out x h
          · exact HI7.out.ok x h
        obtain ⟨A3, c3, rfl, _, _⟩ := hown.ints hok2
        have HO7 := Lib.hid hown
        have HK7 := Lib.hid hok2
        have hk6 : ∀ k, k < w.heap.size + 2 → w7.heap[k]? = w6.heap[k]? := fun k hk => hgr.block k (by omega) (fun e => by have := (HO6.out.lt k e.symm).1; omega)
        have hs7 := hgr.size
        have X7 := Lib.hid (X6.out.block (hk6 _ (by omega)) hs7)
        have R7 := Lib.hid (R6.out.block (hk6 _ (by omega)) hs7)
        have E7 := Lib.hid (E6.out.trans ((below_grown HO6.out hgr (by omega)).mono (by omega)))
        have I7 := Lib.hid (HI8.out.grown hgr HC4.out (by omega))
        have HC7 := Lib.hid (HC4.out.later (s := w6.heap.size) (by omega) hob)
        have hdl : (List.drop mm R1').length ≤ R1'.length - mm := by rw [List.length_drop]; omega
        clear hown hok2 hgr hob hk6 X6 R6 E6 HI7 HI8 HO6
        go_wp2
        go_roundw
        case rel => exact ⟨j + 1, m + mm, c3, A3, _, _, _, _, A8, n8, c8, Y, w4.heap.size, rfl, by omega, by omega, by omega, by omega, hc8, by omega, by omega, .inr (by omega), HO7, HK7, HC7, E7, X7, R7, I7, HV1, by omega, hR⟩
        case measure => simp [lenV]; omega
      · have hne : (st != 0) = true := by simpa using hst
        have HTT : Hid (T = ⟨p1, a1, R1', out, st⟩) := by
          show T = _
          have h1 := HREC.out
          rw [if_neg hst] at h1
          exact h1.symm
        clear HREC hst HP
        obtain ⟨A3, c3, e3, hc3, hi3⟩ := HO3.out.ints hok.out
        injection e3 with e1 _ e2
        subst e1; subst e2
        have HI9 := Lib.hid hi3
        have HAP := Lib.hid (HO3.out.apart HC1.out HI3.out.ints)
        clear hi3
        have x0 := (X3.out.2 0 _ rfl).1; have x1 := (X3.out.2 1 _ rfl).1; have x2 := (X3.out.2 2 _ rfl).1; have x3 := (X3.out.2 3 _ rfl).1; have x4 := (X3.out.2 4 _ rfl).1; have x5 := (X3.out.2 5 _ rfl).1
        have r0 := (R3.out.2 0 _ rfl).1; have r1 := (R3.out.2 1 _ rfl).1; have r2 := (R3.out.2 2 _ rfl).1; have r3 := (R3.out.2 3 _ rfl).1; have r4 := (R3.out.2 4 _ rfl).1; have r5 := (R3.out.2 5 _ rfl).1
        have g0 := (R3.out.2 0 _ rfl).2; have g1 := (R3.out.2 1 _ rfl).2; have g2 := (R3.out.2 2 _ rfl).2; have g3 := (R3.out.2 3 _ rfl).2; have g4 := (R3.out.2 4 _ rfl).2; have g5 := (R3.out.2 5 _ rfl).2
        go_wp2
        refine bodyPost_ret (v := .tuple #[.agg #[.slice (A) n c, .int .i64 (p1), .slice (A') n' c', .int .i64 ((a1 : Int)), .slice (A6) n6 c6, .int .i64 (z)], .slice Ao m co, .int .i64 st]) (by simp [results, Try.results52, go_sem, r0, r1, r2, r3, r4, r5, g0, g1, g2, g3, g4, g5]) rfl ?_
        rw [HTT.out]
        refine ⟨Ao, m, co, A6, n6, c6, M6, C6, rfl, hc3, hc6, ?_, ?_, ?_, ?_, ?_, HAP.out⟩
        · (repeat (with_reducible refine below_set ?_ (by omega) _))
          exact E3.out
        · (repeat (with_reducible refine RowI.set_ ?_ (by omega) _))
          exact HI3.out
        · simp only [World.size_setCell]; omega
        · rcases hor2 with h | h
          · exact .inl h
          · exact .inr (by omega)
        · simp only [World.size_setCell]
          refine Ints.more (lo := w.heap.size + 2) (hi := w3.heap.size) ?_ (by omega) (by omega)
          (repeat (with_reducible refine Ints.set_ ?_ (by omega) _))
          exact HI9.out
    · have hlti : ¬ (m : Int) < (N : Int) := by omega
      have HTT : Hid (T = ⟨p', a', R', out, 0⟩) := by
        show T = _
        have h1 := hg.out
        rw [show 62 - j = (62 - (j + 1)) + 1 from by omega, fullGo, if_pos (by omega)] at h1
        exact h1.symm
      have hfar : w.heap.size + 1 < M' ∨ C' ≤ w.heap.size + 1 := by
        rcases hor with ⟨_, _, _, rfl⟩ | h
        · exact .inr (by omega)
        · exact .inl (by omega)
      clear hg hml
      obtain ⟨A3, c3, e3, hc3, hi3⟩ := ho.out.ints hok.out
      injection e3 with e1 _ e2
      subst e1; subst e2
      have HI9 := Lib.hid hi3
      have HAP := Lib.hid (ho.out.apart hcl.out hR.out.ints)
      clear hi3
      have x0 := (hX.out.2 0 _ rfl).1; have x1 := (hX.out.2 1 _ rfl).1; have x2 := (hX.out.2 2 _ rfl).1; have x3 := (hX.out.2 3 _ rfl).1; have x4 := (hX.out.2 4 _ rfl).1; have x5 := (hX.out.2 5 _ rfl).1
      have r0 := (hR0.out.2 0 _ rfl).1; have r1 := (hR0.out.2 1 _ rfl).1; have r2 := (hR0.out.2 2 _ rfl).1; have r3 := (hR0.out.2 3 _ rfl).1; have r4 := (hR0.out.2 4 _ rfl).1; have r5 := (hR0.out.2 5 _ rfl).1
      have g0 := (hR0.out.2 0 _ rfl).2; have g1 := (hR0.out.2 1 _ rfl).2; have g2 := (hR0.out.2 2 _ rfl).2; have g3 := (hR0.out.2 3 _ rfl).2; have g4 := (hR0.out.2 4 _ rfl).2; have g5 := (hR0.out.2 5 _ rfl).2
      go_wp2
      refine bodyPost_ret (v := .tuple #[.agg #[.slice (A) n c, .int .i64 (p'), .slice (A') n' c', .int .i64 ((a' : Int)), .slice (A5) n5 c5, .int .i64 (z)], .slice Ao m co, .int .i64 0]) (by simp [results, Try.results52, go_sem, r0, r1, r2, r3, r4, r5, g0, g1, g2, g3, g4, g5]) rfl ?_
      rw [HTT.out]
      refine ⟨Ao, m, co, A5, n5, c5, M', C', rfl, hc3, hc5, ?_, ?_, ?_, ?_, ?_, HAP.out⟩
      · (repeat (with_reducible refine below_set ?_ (by omega) _))
        exact hb.out
      · (repeat (with_reducible refine RowI.set_ ?_ (by omega) _))
        exact hR.out
      · simp only [World.size_setCell]; omega
      · rcases hor with h | h
        · exact .inl h
        · exact .inr (by omega)
      · simp only [World.size_setCell]
        refine Ints.more (lo := w.heap.size + 2) (hi := wr.heap.size) ?_ (by omega) (by omega)
        (repeat (with_reducible refine Ints.set_ ?_ (by omega) _))
        exact HI9.out
end Go.Proofs.Ytmjmplfhedknhaa
