/- The model's filled and given. -/
import Derived.Test.YtmjmplfhedknhaaC2j
import Derived.Test.YtmjmplfhedknhaaS2d
import Derived.Test.YtmjmplfhedknhaaS1d
namespace Go.Proofs.Ytmjmplfhedknhaa
open Go.ChangeShapes Go.WideShapes Go.ChangeAt Go.RowKit
set_option linter.unusedSimpArgs false
set_option linter.unusedVariables false
set_option maxRecDepth 10000

/-- A walk goes on in a world of which only F is known. -/
theorem wp_rename {P : Program} {c : Code} {K : Exit → Act → World → Prop} {a : Act} {W : World} (F : World → Prop) (hF : F W) (h : ∀ w2, F w2 → Code.wp P c K a w2) : Code.wp P c K a W := h W hF

/-- What filled gives: the same memory but for what is read ahead. -/
def FilledPost (A : Option Addr) (n c : Nat) (A' : Option Addr) (n' c' : Nat) (D S : List Int) (z p : Int) (a : Nat) (A2 : Option Addr) (n2 M C : Nat) (R : List Int) (w : World) (e : Ending) (w' : World) : Prop :=
  ∃ A5 n5 c5 M' C', e = .returned (.tuple #[.agg #[.slice (A) n c, .int .i64 (flP D S z p a R), .slice (A') n' c', .int .i64 ((flA a R : Int)), .slice (A5) n5 c5, .int .i64 (z)], .int .i64 (flS D S p a R)]) ∧ n5 ≤ c5 ∧ Below w.heap.size w w' ∧ Ints w' M' C' A5 n5 (flR D S z p a R) ∧ C' ≤ w'.heap.size ∧ ((A5 = A2 ∧ n5 = n2 ∧ M' = M ∧ C' = C) ∨ w.heap.size ≤ M')
set_option maxHeartbeats 2000000 in
theorem filled_any {A A' A2 : Option Addr} {n c n' c' n2 c2 a : Nat} {D S R : List Int} {p z : Int} {w : World} {L L' B B' M C : Nat} (h : Ints w L B A n D) (h' : Ints w L' B' A' n' S) (g : Ints w M C A2 n2 R) (hB : B ≤ w.heap.size) (hB' : B' ≤ w.heap.size) (hC : C ≤ w.heap.size)
    (hnc : n ≤ c) (hn2 : n2 ≤ c2) (hv : validD D p S (a : Int) = true) (ha : a < 1000) (hz : 1 ≤ z) (hz' : z ≤ 60) :
    Calls Try.prog 44 #[.agg #[.slice (A) n c, .int .i64 (p), .slice (A') n' c', .int .i64 ((a : Int)), .slice (A2) n2 c2, .int .i64 (z)]] w (FilledPost A n c A' n' c' D S z p a A2 n2 M C R w) := by
  have HG := Lib.hid g.len
  have H1 : Hid (Ints ((w.alloc (.cells #[.slice (A) n c, .int .i64 (p), .slice (A') n' c', .int .i64 ((a : Int)), .slice (A2) n2 c2, .int .i64 (z)] 27)).alloc (.cells #[.slice none 0 0, .int .i64 0, .slice none 0 0, .int .i64 0, .slice none 0 0, .int .i64 0] 27)) L B A n D) := (h.alloc hB _).alloc (by first | omega | (simp; omega) | (simp; done)) _
  have H2 : Hid (Ints ((w.alloc (.cells #[.slice (A) n c, .int .i64 (p), .slice (A') n' c', .int .i64 ((a : Int)), .slice (A2) n2 c2, .int .i64 (z)] 27)).alloc (.cells #[.slice none 0 0, .int .i64 0, .slice none 0 0, .int .i64 0, .slice none 0 0, .int .i64 0] 27)) L' B' A' n' S) := (h'.alloc hB' _).alloc (by first | omega | (simp; omega) | (simp; done)) _
  have G1 : Hid (Ints ((w.alloc (.cells #[.slice (A) n c, .int .i64 (p), .slice (A') n' c', .int .i64 ((a : Int)), .slice (A2) n2 c2, .int .i64 (z)] 27)).alloc (.cells #[.slice none 0 0, .int .i64 0, .slice none 0 0, .int .i64 0, .slice none 0 0, .int .i64 0] 27)) M C A2 n2 R) := (g.alloc hC _).alloc (by first | omega | (simp; omega) | (simp; done)) _
  have X0 : Hid (Box ((w.alloc (.cells #[.slice (A) n c, .int .i64 (p), .slice (A') n' c', .int .i64 ((a : Int)), .slice (A2) n2 c2, .int .i64 (z)] 27)).alloc (.cells #[.slice none 0 0, .int .i64 0, .slice none 0 0, .int .i64 0, .slice none 0 0, .int .i64 0] 27)) w.heap.size [.slice (A) n c, .int .i64 (p), .slice (A') n' c', .int .i64 ((a : Int)), .slice (A2) n2 c2, .int .i64 (z)]) := (Box.new w 27 [.slice (A) n c, .int .i64 (p), .slice (A') n' c', .int .i64 ((a : Int)), .slice (A2) n2 c2, .int .i64 (z)]).alloc _
  have R0 : Hid (Box ((w.alloc (.cells #[.slice (A) n c, .int .i64 (p), .slice (A') n' c', .int .i64 ((a : Int)), .slice (A2) n2 c2, .int .i64 (z)] 27)).alloc (.cells #[.slice none 0 0, .int .i64 0, .slice none 0 0, .int .i64 0, .slice none 0 0, .int .i64 0] 27)) (w.heap.size + 1) [.slice none 0 0, .int .i64 0, .slice none 0 0, .int .i64 0, .slice none 0 0, .int .i64 0]) := by
    have hx := Box.new (w.alloc (.cells #[.slice (A) n c, .int .i64 (p), .slice (A') n' c', .int .i64 ((a : Int)), .slice (A2) n2 c2, .int .i64 (z)] 27)) 27 [.slice none 0 0, .int .i64 0, .slice none 0 0, .int .i64 0, .slice none 0 0, .int .i64 0]
    rw [World.size_alloc] at hx
    exact hx
  have E0 : Hid (Below w.heap.size w ((w.alloc (.cells #[.slice (A) n c, .int .i64 (p), .slice (A') n' c', .int .i64 ((a : Int)), .slice (A2) n2 c2, .int .i64 (z)] 27)).alloc (.cells #[.slice none 0 0, .int .i64 0, .slice none 0 0, .int .i64 0, .slice none 0 0, .int .i64 0] 27))) := (by go_grown : Below w.heap.size w _)
  have s0 : (((w.alloc (.cells #[.slice (A) n c, .int .i64 (p), .slice (A') n' c', .int .i64 ((a : Int)), .slice (A2) n2 c2, .int .i64 (z)] 27)).alloc (.cells #[.slice none 0 0, .int .i64 0, .slice none 0 0, .int .i64 0, .slice none 0 0, .int .i64 0] 27))).heap.size = w.heap.size + 2 := by simp
  have HV := Lib.hid hv
  have G2 := Lib.hid (fun o1 o2 => (g.alloc hC o1).alloc (by first | omega | (simp; omega) | (simp; done)) o2)
  clear h h' g hv
  by_cases h0 : n2 = 0
  · obtain rfl : R = [] := List.eq_nil_of_length_eq_zero (by have := HG.out; omega)
    have h1 : ¬ (0 : Int) < (n2 : Int) := by omega
    have h1n : ¬ 0 < n2 := by omega
    clear h0
    go_enter Try.func44, Try.ntmps44
    go_wp2_with fail
    generalize ((w.alloc (.cells #[.slice (A) n c, .int .i64 (p), .slice (A') n' c', .int .i64 ((a : Int)), .slice (A2) n2 c2, .int .i64 (z)] 27)).alloc (.cells #[.slice none 0 0, .int .i64 0, .slice none 0 0, .int .i64 0, .slice none 0 0, .int .i64 0] 27)) = w0 at *
    refine (sReadDevice0_any H1.out H2.out (by omega) (by omega) hnc HV.out ha hz hz').mono ?_
    rintro e w1 ⟨A5, n5, c5, rfl, hc5, hb1, hi1⟩
    have s1 := hb1.size
    have X1 := Lib.hid (X0.out.below hb1 (by omega))
    have R1 := Lib.hid (R0.out.below hb1 (by omega))
    have E1 := Lib.hid (below_step hb1 E0.out (by omega))
    have HI1 := Lib.hid hi1
    clear hb1 hi1 X0 R0 E0 H1 H2 G1
    have gx := X1.out.lt
    have gr := R1.out.lt
    go_upto_region 4 with (fail)
    refine wp_rename (fun w2 => Hid (Box w2 w1.heap.size [.slice (A) n c, .int .i64 (p + ((rdL D p (mayAt S a) z).length : Int)), .slice (A') n' c', .int .i64 ((a : Int) + 1)]) ∧ Hid (Box w2 w.heap.size [.slice (A) n c, .int .i64 (p), .slice (A') n' c', .int .i64 ((a : Int)), .slice (A2) n2 c2, .int .i64 (z)]) ∧ Hid (Box w2 (w.heap.size + 1) [.slice none 0 0, .int .i64 0, .slice none 0 0, .int .i64 0, .slice none 0 0, .int .i64 0]) ∧ Hid (Below w.heap.size w w2) ∧ Hid (Ints w2 w0.heap.size w1.heap.size A5 n5 (rdL D p (mayAt S a) z)) ∧ w1.heap.size < w2.heap.size) ⟨?_, ?_, ?_, ?_, ?_, ?_⟩ ?_
    · exact Box.new w1 25 [.slice (A) n c, .int .i64 (p + ((rdL D p (mayAt S a) z).length : Int)), .slice (A') n' c', .int .i64 ((a : Int) + 1)]
    · show Box _ _ _
      (repeat (with_reducible refine Box.set_ ?_ (by omega) _))
      exact X1.out.alloc _
    · show Box _ _ _
      (repeat (with_reducible refine Box.set_ ?_ (by omega) _))
      exact R1.out.alloc _
    · show Below _ _ _
      (repeat (with_reducible refine below_set ?_ (by omega) _))
      exact E1.out.alloc (by omega) _
    · show Ints _ _ _ _ _ _
      (repeat (with_reducible refine Ints.set_ ?_ (by omega) _))
      exact HI1.out.alloc (by omega) _
    · simp only [World.size_setCell, World.size_alloc]; omega
    rintro w2 ⟨D2, X2, R2, E2, HI2, s2⟩
    clear X1 R1 E1 HI1 gx gr
    have d0 := (D2.out.2 0 _ rfl).1; have d1 := (D2.out.2 1 _ rfl).1; have d2 := (D2.out.2 2 _ rfl).1; have d3 := (D2.out.2 3 _ rfl).1
    have x0 := (X2.out.2 0 _ rfl).1; have x1 := (X2.out.2 1 _ rfl).1; have x2 := (X2.out.2 2 _ rfl).1; have x3 := (X2.out.2 3 _ rfl).1; have x4 := (X2.out.2 4 _ rfl).1; have x5 := (X2.out.2 5 _ rfl).1
    have f0 := (X2.out.2 0 _ rfl).2; have f1 := (X2.out.2 1 _ rfl).2; have f2 := (X2.out.2 2 _ rfl).2; have f3 := (X2.out.2 3 _ rfl).2; have f4 := (X2.out.2 4 _ rfl).2; have f5 := (X2.out.2 5 _ rfl).2
    go_upto_region 6 with (fail)
    clear d0 d1 d2 d3
    clear x0 x1 x2 x3 x4 x5
    clear f0 f1 f2 f3 f4 f5
    refine wp_rename (fun w3 => Hid (Box w3 w.heap.size [.slice (A) n c, .int .i64 (p + ((rdL D p (mayAt S a) z).length : Int)), .slice (A') n' c', .int .i64 ((a : Int) + 1), .slice (A5) n5 c5, .int .i64 (z)]) ∧ Hid (Box w3 (w.heap.size + 1) [.slice none 0 0, .int .i64 0, .slice none 0 0, .int .i64 0, .slice none 0 0, .int .i64 0]) ∧ Hid (Below w.heap.size w w3) ∧ Hid (Ints w3 w0.heap.size w1.heap.size A5 n5 (rdL D p (mayAt S a) z)) ∧ w1.heap.size ≤ w3.heap.size) ⟨?_, ?_, ?_, ?_, ?_⟩ ?_
    · have hx := ((((X2.out.put (i := 0) (by simp) (.slice A n c)).put (i := 1) (by simp) (.int .i64 (p + ((rdL D p (mayAt S a) z).length : Int)))).put (i := 2) (by simp) (.slice A' n' c')).put (i := 3) (by simp) (.int .i64 ((a : Int) + 1))).put (i := 4) (by simp) (.slice A5 n5 c5)
      show Box _ _ _
      simpa using hx
    · show Box _ _ _
      (repeat (with_reducible refine Box.set_ ?_ (by omega) _))
      exact R2.out
    · show Below _ _ _
      (repeat (with_reducible refine below_set ?_ (by omega) _))
      exact E2.out
    · show Ints _ _ _ _ _ _
      (repeat (with_reducible refine Ints.set_ ?_ (by omega) _))
      exact HI2.out
    · simp only [World.size_setCell]; omega
    clear D2 X2 R2 E2 HI2 s2
    rintro w2' ⟨X2, R2, E2, HI2, s2⟩
    have gr := R2.out.lt
    have x0 := (X2.out.2 0 _ rfl).1; have x1 := (X2.out.2 1 _ rfl).1; have x2 := (X2.out.2 2 _ rfl).1; have x3 := (X2.out.2 3 _ rfl).1; have x4 := (X2.out.2 4 _ rfl).1; have x5 := (X2.out.2 5 _ rfl).1
    have r0 := (R2.out.2 0 _ rfl).1; have r1 := (R2.out.2 1 _ rfl).1; have r2 := (R2.out.2 2 _ rfl).1; have r3 := (R2.out.2 3 _ rfl).1; have r4 := (R2.out.2 4 _ rfl).1; have r5 := (R2.out.2 5 _ rfl).1
    have g0 := (R2.out.2 0 _ rfl).2; have g1 := (R2.out.2 1 _ rfl).2; have g2 := (R2.out.2 2 _ rfl).2; have g3 := (R2.out.2 3 _ rfl).2; have g4 := (R2.out.2 4 _ rfl).2; have g5 := (R2.out.2 5 _ rfl).2
    go_wp2
    refine bodyPost_ret (v := .tuple #[.agg #[.slice (A) n c, .int .i64 (p + ((rdL D p (mayAt S a) z).length : Int)), .slice (A') n' c', .int .i64 ((a : Int) + 1), .slice (A5) n5 c5, .int .i64 (z)], .int .i64 (rdSt D p (mayAt S a))]) (by simp [results, Try.results44, go_sem, r0, r1, r2, r3, r4, r5, g0, g1, g2, g3, g4, g5, gr]) rfl ?_
    refine ⟨A5, n5, c5, w0.heap.size, w1.heap.size, ?_, hc5, ?_, ?_, ?_, .inr (by omega)⟩
    · simp [flP, flA, flS]
    · (repeat (with_reducible refine below_set ?_ (by omega) _))
      exact E2.out
    · simp only [flR, if_pos]
      (repeat (with_reducible refine Ints.set_ ?_ (by omega) _))
      exact HI2.out
    · simp only [World.size_setCell]; omega
  · have h1 : (0 : Int) < (n2 : Int) := by omega
    have hne : ¬ R = [] := by rintro rfl; exact h0 HG.out
    have HE : Hid (flS D S p a R = 0 ∧ flP D S z p a R = p ∧ flA a R = a ∧ flR D S z p a R = R) := by
      show _ ∧ _
      unfold flS flP flA flR
      rw [if_neg hne, if_neg hne, if_neg hne, if_neg hne]
      exact ⟨rfl, rfl, rfl, rfl⟩
    clear hne
    clear X0 R0 E0 H1 H2 G1 s0
    go_enter Try.func44, Try.ntmps44
    go_wp2
    refine bodyPost_ret (v := .tuple #[.agg #[.slice (A) n c, .int .i64 (p), .slice (A') n' c', .int .i64 ((a : Int)), .slice (A2) n2 c2, .int .i64 (z)], .int .i64 0]) (by simp [results, Try.results44, go_sem]) rfl ?_
    obtain ⟨e1, e2, e3, e4⟩ := HE.out
    unfold FilledPost
    rw [e1, e2, e3, e4]
    refine ⟨A2, n2, c2, M, C, rfl, hn2, ?_, ?_, ?_, .inl ⟨rfl, rfl, rfl, rfl⟩⟩
    · go_grown
    · exact G2.out _ _
    · simp; omega
/-- What given gives: the same memory, the bytes and what is left in new memory. -/
def GivenPost (A : Option Addr) (n c : Nat) (A' : Option Addr) (n' c' : Nat) (z p q : Int) (m : Nat) (R : List Int) (w : World) (e : Ending) (w' : World) : Prop :=
  ∃ A6 c6 A5 n5 c5 X, e = .returned (.tuple #[.agg #[.slice (A) n c, .int .i64 (p), .slice (A') n' c', .int .i64 (q), .slice (A5) n5 c5, .int .i64 (z)], .slice A6 m c6]) ∧ m ≤ c6 ∧ n5 ≤ c5 ∧ Below w.heap.size w w' ∧ w.heap.size ≤ X ∧ X ≤ w'.heap.size ∧ Ints w' w.heap.size X A6 m (R.take m) ∧ Ints w' X w'.heap.size A5 n5 (R.drop m)
set_option maxHeartbeats 2000000 in
theorem given_any {A A' A2 : Option Addr} {n c n' c' n2 c2 k m : Nat} {R : List Int} {p q z : Int} {w : World} {M C : Nat} (g : Ints w M C A2 n2 R) (hC : C ≤ w.heap.size) (hn2 : n2 ≤ c2) (hb : n2 ≤ 1000) (hk : k ≤ 1000) (hm : m = min k n2) :
    Calls Try.prog 46 #[.agg #[.slice (A) n c, .int .i64 (p), .slice (A') n' c', .int .i64 (q), .slice (A2) n2 c2, .int .i64 (z)], .int .i64 (k : Int)] w (GivenPost A n c A' n' c' z p q m R w) := by
  have HG := Lib.hid g.len
  have G1 : Hid (Ints ((w.alloc (.cells #[.slice (A) n c, .int .i64 (p), .slice (A') n' c', .int .i64 (q), .slice (A2) n2 c2, .int .i64 (z)] 27)).alloc (.cells #[.slice none 0 0, .int .i64 0, .slice none 0 0, .int .i64 0, .slice none 0 0, .int .i64 0] 27)) M C A2 n2 R) := (g.alloc hC _).alloc (by first | omega | (simp; omega) | (simp; done)) _
  have X0 : Hid (Box ((w.alloc (.cells #[.slice (A) n c, .int .i64 (p), .slice (A') n' c', .int .i64 (q), .slice (A2) n2 c2, .int .i64 (z)] 27)).alloc (.cells #[.slice none 0 0, .int .i64 0, .slice none 0 0, .int .i64 0, .slice none 0 0, .int .i64 0] 27)) w.heap.size [.slice (A) n c, .int .i64 (p), .slice (A') n' c', .int .i64 (q), .slice (A2) n2 c2, .int .i64 (z)]) := (Box.new w 27 [.slice (A) n c, .int .i64 (p), .slice (A') n' c', .int .i64 (q), .slice (A2) n2 c2, .int .i64 (z)]).alloc _
  have R0 : Hid (Box ((w.alloc (.cells #[.slice (A) n c, .int .i64 (p), .slice (A') n' c', .int .i64 (q), .slice (A2) n2 c2, .int .i64 (z)] 27)).alloc (.cells #[.slice none 0 0, .int .i64 0, .slice none 0 0, .int .i64 0, .slice none 0 0, .int .i64 0] 27)) (w.heap.size + 1) [.slice none 0 0, .int .i64 0, .slice none 0 0, .int .i64 0, .slice none 0 0, .int .i64 0]) := by
    have hx := Box.new (w.alloc (.cells #[.slice (A) n c, .int .i64 (p), .slice (A') n' c', .int .i64 (q), .slice (A2) n2 c2, .int .i64 (z)] 27)) 27 [.slice none 0 0, .int .i64 0, .slice none 0 0, .int .i64 0, .slice none 0 0, .int .i64 0]
    rw [World.size_alloc] at hx
    exact hx
  have E0 : Hid (Below w.heap.size w ((w.alloc (.cells #[.slice (A) n c, .int .i64 (p), .slice (A') n' c', .int .i64 (q), .slice (A2) n2 c2, .int .i64 (z)] 27)).alloc (.cells #[.slice none 0 0, .int .i64 0, .slice none 0 0, .int .i64 0, .slice none 0 0, .int .i64 0] 27))) := (by go_grown : Below w.heap.size w _)
  have s0 : (((w.alloc (.cells #[.slice (A) n c, .int .i64 (p), .slice (A') n' c', .int .i64 (q), .slice (A2) n2 c2, .int .i64 (z)] 27)).alloc (.cells #[.slice none 0 0, .int .i64 0, .slice none 0 0, .int .i64 0, .slice none 0 0, .int .i64 0] 27))).heap.size = w.heap.size + 2 := by simp
  clear g
  have hk0 : (0 : Int) ≤ (k : Int) := by omega
  have hn0 : (0 : Int) ≤ (n2 : Int) := by omega
  have hnc : (n2 : Int) ≤ (c2 : Int) := by omega
  go_enter Try.func46, Try.ntmps46
  go_upto_region 1 with (fail)
  refine wp_rename (fun w0 => Hid (Ints w0 M C A2 n2 R) ∧ Hid (Box w0 w.heap.size [.slice (A) n c, .int .i64 (p), .slice (A') n' c', .int .i64 (q), .slice (A2) n2 c2, .int .i64 (z)]) ∧ Hid (Box w0 (w.heap.size + 1) [.slice none 0 0, .int .i64 0, .slice none 0 0, .int .i64 0, .slice none 0 0, .int .i64 0]) ∧ Hid (Below w.heap.size w w0) ∧ w0.heap.size = w.heap.size + 2) ⟨G1, X0, R0, E0, s0⟩ ?_
  clear G1 X0 R0 E0 s0
  rintro w0 ⟨G1, X0, R0, E0, s0⟩
  have x0 := (X0.out.2 0 _ rfl).1; have x1 := (X0.out.2 1 _ rfl).1; have x2 := (X0.out.2 2 _ rfl).1; have x3 := (X0.out.2 3 _ rfl).1; have x4 := (X0.out.2 4 _ rfl).1; have x5 := (X0.out.2 5 _ rfl).1
  by_cases hlt : n2 < k
  · have hltI : (n2 : Int) < (k : Int) := by omega
    obtain rfl : n2 = m := by omega
    have hmn : n2 ≤ n2 := Nat.le_refl _
    have HDR : Hid (R.drop n2 = []) := by show _ = _; exact List.drop_eq_nil_of_le (by rw [← HG.out]; exact Nat.le_refl _)
    clear hm
    by_cases hcm : c2 = n2
    · go_wp2_with fail
      refine (copyInts_any (G1.out.take hmn) (by omega) (by omega)).mono ?_
      rintro e w1 ⟨A6, n6, c6, rfl, hc6, hb1, hi1⟩
      obtain rfl : n2 = n6 := by have := hi1.len; rw [List.length_take, ← HG.out] at this; omega
      have s1 := hb1.size
      have X1 := Lib.hid (X0.out.below hb1 (by omega))
      have R1 := Lib.hid (R0.out.below hb1 (by omega))
      have E1 := Lib.hid (below_step hb1 E0.out (by omega))
      have HI1 := Lib.hid hi1
      have G2 := Lib.hid (G1.out.below hb1 (by omega))
      clear hb1 hi1 X0 R0 E0 G1
      clear x0 x1 x2 x3 x4 x5
      have x0 := (X1.out.2 0 _ rfl).1; have x1 := (X1.out.2 1 _ rfl).1; have x2 := (X1.out.2 2 _ rfl).1; have x3 := (X1.out.2 3 _ rfl).1; have x4 := (X1.out.2 4 _ rfl).1; have x5 := (X1.out.2 5 _ rfl).1
      go_wp2_with fail
      clear x0 x1 x2 x3 x4 x5
      refine (copyInts_any (Ints.nil w1 0 0 0 _).1 (by omega) (by omega)).mono ?_
      rintro e w2 ⟨A5, n5, c5, rfl, hc5, hb2, hi2⟩
      have s2 := hb2.size
      have X2 := Lib.hid (X1.out.below hb2 (by omega))
      have R2 := Lib.hid (R1.out.below hb2 (by omega))
      have E2 := Lib.hid (below_step hb2 E1.out (by omega))
      rw [← HDR.out] at hi2
      have HI2 := Lib.hid hi2
      have HI1 := Lib.hid (HI1.out.below hb2 (by omega))
      clear hb2 hi2 X1 R1 E1 G2
      have x0 := (X2.out.2 0 _ rfl).1; have x1 := (X2.out.2 1 _ rfl).1; have x2 := (X2.out.2 2 _ rfl).1; have x3 := (X2.out.2 3 _ rfl).1; have x4 := (X2.out.2 4 _ rfl).1; have x5 := (X2.out.2 5 _ rfl).1
      have f0 := (X2.out.2 0 _ rfl).2; have f1 := (X2.out.2 1 _ rfl).2; have f2 := (X2.out.2 2 _ rfl).2; have f3 := (X2.out.2 3 _ rfl).2; have f4 := (X2.out.2 4 _ rfl).2; have f5 := (X2.out.2 5 _ rfl).2
      go_upto_region 4 with (fail)
      clear x0 x1 x2 x3 x4 x5
      clear f0 f1 f2 f3 f4 f5
      refine wp_rename (fun w3 => Hid (Box w3 w.heap.size [.slice (A) n c, .int .i64 (p), .slice (A') n' c', .int .i64 (q), .slice (A5) n5 c5, .int .i64 (z)]) ∧ Hid (Box w3 (w.heap.size + 1) [.slice none 0 0, .int .i64 0, .slice none 0 0, .int .i64 0, .slice none 0 0, .int .i64 0]) ∧ Hid (Below w.heap.size w w3) ∧ Hid (Ints w3 w0.heap.size w1.heap.size A6 n2 (R.take n2)) ∧ Hid (Ints w3 w1.heap.size w2.heap.size A5 n5 (R.drop n2)) ∧ w3.heap.size = w2.heap.size) ⟨?_, ?_, ?_, ?_, ?_, ?_⟩ ?_
      · have hx := X2.out.put (i := 4) (by simp) (.slice A5 n5 c5)
        show Box _ _ _
        simpa using hx
      · show Box _ _ _
        (repeat (with_reducible refine Box.set_ ?_ (by omega) _))
        exact R2.out
      · show Below _ _ _
        (repeat (with_reducible refine below_set ?_ (by omega) _))
        exact E2.out
      · show Ints _ _ _ _ _ _
        (repeat (with_reducible refine Ints.set_ ?_ (by omega) _))
        exact HI1.out
      · show Ints _ _ _ _ _ _
        (repeat (with_reducible refine Ints.set_ ?_ (by omega) _))
        exact HI2.out
      · simp only [World.size_setCell]
      clear X2 R2 E2 HI1 HI2
      rintro w3 ⟨X2, R2, E2, HI1, HI2, s3⟩
      have gr := R2.out.lt
      have x0 := (X2.out.2 0 _ rfl).1; have x1 := (X2.out.2 1 _ rfl).1; have x2 := (X2.out.2 2 _ rfl).1; have x3 := (X2.out.2 3 _ rfl).1; have x4 := (X2.out.2 4 _ rfl).1; have x5 := (X2.out.2 5 _ rfl).1
      have r0 := (R2.out.2 0 _ rfl).1; have r1 := (R2.out.2 1 _ rfl).1; have r2 := (R2.out.2 2 _ rfl).1; have r3 := (R2.out.2 3 _ rfl).1; have r4 := (R2.out.2 4 _ rfl).1; have r5 := (R2.out.2 5 _ rfl).1
      have g0 := (R2.out.2 0 _ rfl).2; have g1 := (R2.out.2 1 _ rfl).2; have g2 := (R2.out.2 2 _ rfl).2; have g3 := (R2.out.2 3 _ rfl).2; have g4 := (R2.out.2 4 _ rfl).2; have g5 := (R2.out.2 5 _ rfl).2
      go_wp2
      refine bodyPost_ret (v := .tuple #[.agg #[.slice (A) n c, .int .i64 (p), .slice (A') n' c', .int .i64 (q), .slice (A5) n5 c5, .int .i64 (z)], .slice A6 n2 c6]) (by simp [results, Try.results46, go_sem, r0, r1, r2, r3, r4, r5, g0, g1, g2, g3, g4, g5, gr]) rfl ?_
      refine ⟨A6, c6, A5, n5, c5, w1.heap.size, rfl, hc6, hc5, ?_, by omega, ?_, ?_, ?_⟩
      · (repeat (with_reducible refine below_set ?_ (by omega) _))
        exact E2.out
      · simp only [World.size_setCell]; omega
      · refine Ints.more (lo := w0.heap.size) (hi := w1.heap.size) ?_ (by omega) (Nat.le_refl _)
        (repeat (with_reducible refine Ints.set_ ?_ (by omega) _))
        exact HI1.out
      · simp only [World.size_setCell]
        refine Ints.more (lo := w1.heap.size) (hi := w2.heap.size) ?_ (Nat.le_refl _) (by omega)
        (repeat (with_reducible refine Ints.set_ ?_ (by omega) _))
        exact HI2.out
    · go_wp2_with fail
      refine (copyInts_any (G1.out.take hmn) (by omega) (by omega)).mono ?_
      rintro e w1 ⟨A6, n6, c6, rfl, hc6, hb1, hi1⟩
      obtain rfl : n2 = n6 := by have := hi1.len; rw [List.length_take, ← HG.out] at this; omega
      have s1 := hb1.size
      have X1 := Lib.hid (X0.out.below hb1 (by omega))
      have R1 := Lib.hid (R0.out.below hb1 (by omega))
      have E1 := Lib.hid (below_step hb1 E0.out (by omega))
      have HI1 := Lib.hid hi1
      have G2 := Lib.hid (G1.out.below hb1 (by omega))
      clear hb1 hi1 X0 R0 E0 G1
      clear x0 x1 x2 x3 x4 x5
      have x0 := (X1.out.2 0 _ rfl).1; have x1 := (X1.out.2 1 _ rfl).1; have x2 := (X1.out.2 2 _ rfl).1; have x3 := (X1.out.2 3 _ rfl).1; have x4 := (X1.out.2 4 _ rfl).1; have x5 := (X1.out.2 5 _ rfl).1
      go_wp2_with fail
      clear x0 x1 x2 x3 x4 x5
      refine (copyInts_any (Ints.nil w1 0 0 0 _).1 (by omega) (by omega)).mono ?_
      rintro e w2 ⟨A5, n5, c5, rfl, hc5, hb2, hi2⟩
      have s2 := hb2.size
      have X2 := Lib.hid (X1.out.below hb2 (by omega))
      have R2 := Lib.hid (R1.out.below hb2 (by omega))
      have E2 := Lib.hid (below_step hb2 E1.out (by omega))
      rw [← HDR.out] at hi2
      have HI2 := Lib.hid hi2
      have HI1 := Lib.hid (HI1.out.below hb2 (by omega))
      clear hb2 hi2 X1 R1 E1 G2
      have x0 := (X2.out.2 0 _ rfl).1; have x1 := (X2.out.2 1 _ rfl).1; have x2 := (X2.out.2 2 _ rfl).1; have x3 := (X2.out.2 3 _ rfl).1; have x4 := (X2.out.2 4 _ rfl).1; have x5 := (X2.out.2 5 _ rfl).1
      have f0 := (X2.out.2 0 _ rfl).2; have f1 := (X2.out.2 1 _ rfl).2; have f2 := (X2.out.2 2 _ rfl).2; have f3 := (X2.out.2 3 _ rfl).2; have f4 := (X2.out.2 4 _ rfl).2; have f5 := (X2.out.2 5 _ rfl).2
      go_upto_region 4 with (fail)
      clear x0 x1 x2 x3 x4 x5
      clear f0 f1 f2 f3 f4 f5
      refine wp_rename (fun w3 => Hid (Box w3 w.heap.size [.slice (A) n c, .int .i64 (p), .slice (A') n' c', .int .i64 (q), .slice (A5) n5 c5, .int .i64 (z)]) ∧ Hid (Box w3 (w.heap.size + 1) [.slice none 0 0, .int .i64 0, .slice none 0 0, .int .i64 0, .slice none 0 0, .int .i64 0]) ∧ Hid (Below w.heap.size w w3) ∧ Hid (Ints w3 w0.heap.size w1.heap.size A6 n2 (R.take n2)) ∧ Hid (Ints w3 w1.heap.size w2.heap.size A5 n5 (R.drop n2)) ∧ w3.heap.size = w2.heap.size) ⟨?_, ?_, ?_, ?_, ?_, ?_⟩ ?_
      · have hx := X2.out.put (i := 4) (by simp) (.slice A5 n5 c5)
        show Box _ _ _
        simpa using hx
      · show Box _ _ _
        (repeat (with_reducible refine Box.set_ ?_ (by omega) _))
        exact R2.out
      · show Below _ _ _
        (repeat (with_reducible refine below_set ?_ (by omega) _))
        exact E2.out
      · show Ints _ _ _ _ _ _
        (repeat (with_reducible refine Ints.set_ ?_ (by omega) _))
        exact HI1.out
      · show Ints _ _ _ _ _ _
        (repeat (with_reducible refine Ints.set_ ?_ (by omega) _))
        exact HI2.out
      · simp only [World.size_setCell]
      clear X2 R2 E2 HI1 HI2
      rintro w3 ⟨X2, R2, E2, HI1, HI2, s3⟩
      have gr := R2.out.lt
      have x0 := (X2.out.2 0 _ rfl).1; have x1 := (X2.out.2 1 _ rfl).1; have x2 := (X2.out.2 2 _ rfl).1; have x3 := (X2.out.2 3 _ rfl).1; have x4 := (X2.out.2 4 _ rfl).1; have x5 := (X2.out.2 5 _ rfl).1
      have r0 := (R2.out.2 0 _ rfl).1; have r1 := (R2.out.2 1 _ rfl).1; have r2 := (R2.out.2 2 _ rfl).1; have r3 := (R2.out.2 3 _ rfl).1; have r4 := (R2.out.2 4 _ rfl).1; have r5 := (R2.out.2 5 _ rfl).1
      have g0 := (R2.out.2 0 _ rfl).2; have g1 := (R2.out.2 1 _ rfl).2; have g2 := (R2.out.2 2 _ rfl).2; have g3 := (R2.out.2 3 _ rfl).2; have g4 := (R2.out.2 4 _ rfl).2; have g5 := (R2.out.2 5 _ rfl).2
      go_wp2
      refine bodyPost_ret (v := .tuple #[.agg #[.slice (A) n c, .int .i64 (p), .slice (A') n' c', .int .i64 (q), .slice (A5) n5 c5, .int .i64 (z)], .slice A6 n2 c6]) (by simp [results, Try.results46, go_sem, r0, r1, r2, r3, r4, r5, g0, g1, g2, g3, g4, g5, gr]) rfl ?_
      refine ⟨A6, c6, A5, n5, c5, w1.heap.size, rfl, hc6, hc5, ?_, by omega, ?_, ?_, ?_⟩
      · (repeat (with_reducible refine below_set ?_ (by omega) _))
        exact E2.out
      · simp only [World.size_setCell]; omega
      · refine Ints.more (lo := w0.heap.size) (hi := w1.heap.size) ?_ (by omega) (Nat.le_refl _)
        (repeat (with_reducible refine Ints.set_ ?_ (by omega) _))
        exact HI1.out
      · simp only [World.size_setCell]
        refine Ints.more (lo := w1.heap.size) (hi := w2.heap.size) ?_ (Nat.le_refl _) (by omega)
        (repeat (with_reducible refine Ints.set_ ?_ (by omega) _))
        exact HI2.out
  · have hge : ¬ (n2 : Int) < (k : Int) := by omega
    have hkc : (k : Int) ≤ (n2 : Int) := by omega
    have hkcc : (k : Int) ≤ (c2 : Int) := by omega
    obtain rfl : k = m := by omega
    have hmn : k ≤ n2 := by omega
    clear hm
    by_cases hcm : c2 = k
    · go_wp2_with fail
      refine (copyInts_any (G1.out.take hmn) (by omega) (by omega)).mono ?_
      rintro e w1 ⟨A6, n6, c6, rfl, hc6, hb1, hi1⟩
      obtain rfl : k = n6 := by have := hi1.len; rw [List.length_take, ← HG.out] at this; omega
      have s1 := hb1.size
      have X1 := Lib.hid (X0.out.below hb1 (by omega))
      have R1 := Lib.hid (R0.out.below hb1 (by omega))
      have E1 := Lib.hid (below_step hb1 E0.out (by omega))
      have HI1 := Lib.hid hi1
      have G2 := Lib.hid (G1.out.below hb1 (by omega))
      clear hb1 hi1 X0 R0 E0 G1
      clear x0 x1 x2 x3 x4 x5
      have x0 := (X1.out.2 0 _ rfl).1; have x1 := (X1.out.2 1 _ rfl).1; have x2 := (X1.out.2 2 _ rfl).1; have x3 := (X1.out.2 3 _ rfl).1; have x4 := (X1.out.2 4 _ rfl).1; have x5 := (X1.out.2 5 _ rfl).1
      go_wp2_with fail
      clear x0 x1 x2 x3 x4 x5
      refine (copyInts_any (G2.out.dropped (a := k) (by omega) A2) (by omega) (by omega)).mono ?_
      rintro e w2 ⟨A5, n5, c5, rfl, hc5, hb2, hi2⟩
      have s2 := hb2.size
      have X2 := Lib.hid (X1.out.below hb2 (by omega))
      have R2 := Lib.hid (R1.out.below hb2 (by omega))
      have E2 := Lib.hid (below_step hb2 E1.out (by omega))
      have HI2 := Lib.hid hi2
      have HI1 := Lib.hid (HI1.out.below hb2 (by omega))
      clear hb2 hi2 X1 R1 E1 G2
      have x0 := (X2.out.2 0 _ rfl).1; have x1 := (X2.out.2 1 _ rfl).1; have x2 := (X2.out.2 2 _ rfl).1; have x3 := (X2.out.2 3 _ rfl).1; have x4 := (X2.out.2 4 _ rfl).1; have x5 := (X2.out.2 5 _ rfl).1
      have f0 := (X2.out.2 0 _ rfl).2; have f1 := (X2.out.2 1 _ rfl).2; have f2 := (X2.out.2 2 _ rfl).2; have f3 := (X2.out.2 3 _ rfl).2; have f4 := (X2.out.2 4 _ rfl).2; have f5 := (X2.out.2 5 _ rfl).2
      go_upto_region 4 with (fail)
      clear x0 x1 x2 x3 x4 x5
      clear f0 f1 f2 f3 f4 f5
      refine wp_rename (fun w3 => Hid (Box w3 w.heap.size [.slice (A) n c, .int .i64 (p), .slice (A') n' c', .int .i64 (q), .slice (A5) n5 c5, .int .i64 (z)]) ∧ Hid (Box w3 (w.heap.size + 1) [.slice none 0 0, .int .i64 0, .slice none 0 0, .int .i64 0, .slice none 0 0, .int .i64 0]) ∧ Hid (Below w.heap.size w w3) ∧ Hid (Ints w3 w0.heap.size w1.heap.size A6 k (R.take k)) ∧ Hid (Ints w3 w1.heap.size w2.heap.size A5 n5 (R.drop k)) ∧ w3.heap.size = w2.heap.size) ⟨?_, ?_, ?_, ?_, ?_, ?_⟩ ?_
      · have hx := X2.out.put (i := 4) (by simp) (.slice A5 n5 c5)
        show Box _ _ _
        simpa using hx
      · show Box _ _ _
        (repeat (with_reducible refine Box.set_ ?_ (by omega) _))
        exact R2.out
      · show Below _ _ _
        (repeat (with_reducible refine below_set ?_ (by omega) _))
        exact E2.out
      · show Ints _ _ _ _ _ _
        (repeat (with_reducible refine Ints.set_ ?_ (by omega) _))
        exact HI1.out
      · show Ints _ _ _ _ _ _
        (repeat (with_reducible refine Ints.set_ ?_ (by omega) _))
        exact HI2.out
      · simp only [World.size_setCell]
      clear X2 R2 E2 HI1 HI2
      rintro w3 ⟨X2, R2, E2, HI1, HI2, s3⟩
      have gr := R2.out.lt
      have x0 := (X2.out.2 0 _ rfl).1; have x1 := (X2.out.2 1 _ rfl).1; have x2 := (X2.out.2 2 _ rfl).1; have x3 := (X2.out.2 3 _ rfl).1; have x4 := (X2.out.2 4 _ rfl).1; have x5 := (X2.out.2 5 _ rfl).1
      have r0 := (R2.out.2 0 _ rfl).1; have r1 := (R2.out.2 1 _ rfl).1; have r2 := (R2.out.2 2 _ rfl).1; have r3 := (R2.out.2 3 _ rfl).1; have r4 := (R2.out.2 4 _ rfl).1; have r5 := (R2.out.2 5 _ rfl).1
      have g0 := (R2.out.2 0 _ rfl).2; have g1 := (R2.out.2 1 _ rfl).2; have g2 := (R2.out.2 2 _ rfl).2; have g3 := (R2.out.2 3 _ rfl).2; have g4 := (R2.out.2 4 _ rfl).2; have g5 := (R2.out.2 5 _ rfl).2
      go_wp2
      refine bodyPost_ret (v := .tuple #[.agg #[.slice (A) n c, .int .i64 (p), .slice (A') n' c', .int .i64 (q), .slice (A5) n5 c5, .int .i64 (z)], .slice A6 k c6]) (by simp [results, Try.results46, go_sem, r0, r1, r2, r3, r4, r5, g0, g1, g2, g3, g4, g5, gr]) rfl ?_
      refine ⟨A6, c6, A5, n5, c5, w1.heap.size, rfl, hc6, hc5, ?_, by omega, ?_, ?_, ?_⟩
      · (repeat (with_reducible refine below_set ?_ (by omega) _))
        exact E2.out
      · simp only [World.size_setCell]; omega
      · refine Ints.more (lo := w0.heap.size) (hi := w1.heap.size) ?_ (by omega) (Nat.le_refl _)
        (repeat (with_reducible refine Ints.set_ ?_ (by omega) _))
        exact HI1.out
      · simp only [World.size_setCell]
        refine Ints.more (lo := w1.heap.size) (hi := w2.heap.size) ?_ (Nat.le_refl _) (by omega)
        (repeat (with_reducible refine Ints.set_ ?_ (by omega) _))
        exact HI2.out
    · go_wp2_with fail
      refine (copyInts_any (G1.out.take hmn) (by omega) (by omega)).mono ?_
      rintro e w1 ⟨A6, n6, c6, rfl, hc6, hb1, hi1⟩
      obtain rfl : k = n6 := by have := hi1.len; rw [List.length_take, ← HG.out] at this; omega
      have s1 := hb1.size
      have X1 := Lib.hid (X0.out.below hb1 (by omega))
      have R1 := Lib.hid (R0.out.below hb1 (by omega))
      have E1 := Lib.hid (below_step hb1 E0.out (by omega))
      have HI1 := Lib.hid hi1
      have G2 := Lib.hid (G1.out.below hb1 (by omega))
      clear hb1 hi1 X0 R0 E0 G1
      clear x0 x1 x2 x3 x4 x5
      have x0 := (X1.out.2 0 _ rfl).1; have x1 := (X1.out.2 1 _ rfl).1; have x2 := (X1.out.2 2 _ rfl).1; have x3 := (X1.out.2 3 _ rfl).1; have x4 := (X1.out.2 4 _ rfl).1; have x5 := (X1.out.2 5 _ rfl).1
      go_wp2_with fail
      clear x0 x1 x2 x3 x4 x5
      refine (copyInts_any (G2.out.drop hmn) (by omega) (by omega)).mono ?_
      rintro e w2 ⟨A5, n5, c5, rfl, hc5, hb2, hi2⟩
      have s2 := hb2.size
      have X2 := Lib.hid (X1.out.below hb2 (by omega))
      have R2 := Lib.hid (R1.out.below hb2 (by omega))
      have E2 := Lib.hid (below_step hb2 E1.out (by omega))
      have HI2 := Lib.hid hi2
      have HI1 := Lib.hid (HI1.out.below hb2 (by omega))
      clear hb2 hi2 X1 R1 E1 G2
      have x0 := (X2.out.2 0 _ rfl).1; have x1 := (X2.out.2 1 _ rfl).1; have x2 := (X2.out.2 2 _ rfl).1; have x3 := (X2.out.2 3 _ rfl).1; have x4 := (X2.out.2 4 _ rfl).1; have x5 := (X2.out.2 5 _ rfl).1
      have f0 := (X2.out.2 0 _ rfl).2; have f1 := (X2.out.2 1 _ rfl).2; have f2 := (X2.out.2 2 _ rfl).2; have f3 := (X2.out.2 3 _ rfl).2; have f4 := (X2.out.2 4 _ rfl).2; have f5 := (X2.out.2 5 _ rfl).2
      go_upto_region 4 with (fail)
      clear x0 x1 x2 x3 x4 x5
      clear f0 f1 f2 f3 f4 f5
      refine wp_rename (fun w3 => Hid (Box w3 w.heap.size [.slice (A) n c, .int .i64 (p), .slice (A') n' c', .int .i64 (q), .slice (A5) n5 c5, .int .i64 (z)]) ∧ Hid (Box w3 (w.heap.size + 1) [.slice none 0 0, .int .i64 0, .slice none 0 0, .int .i64 0, .slice none 0 0, .int .i64 0]) ∧ Hid (Below w.heap.size w w3) ∧ Hid (Ints w3 w0.heap.size w1.heap.size A6 k (R.take k)) ∧ Hid (Ints w3 w1.heap.size w2.heap.size A5 n5 (R.drop k)) ∧ w3.heap.size = w2.heap.size) ⟨?_, ?_, ?_, ?_, ?_, ?_⟩ ?_
      · have hx := X2.out.put (i := 4) (by simp) (.slice A5 n5 c5)
        show Box _ _ _
        simpa using hx
      · show Box _ _ _
        (repeat (with_reducible refine Box.set_ ?_ (by omega) _))
        exact R2.out
      · show Below _ _ _
        (repeat (with_reducible refine below_set ?_ (by omega) _))
        exact E2.out
      · show Ints _ _ _ _ _ _
        (repeat (with_reducible refine Ints.set_ ?_ (by omega) _))
        exact HI1.out
      · show Ints _ _ _ _ _ _
        (repeat (with_reducible refine Ints.set_ ?_ (by omega) _))
        exact HI2.out
      · simp only [World.size_setCell]
      clear X2 R2 E2 HI1 HI2
      rintro w3 ⟨X2, R2, E2, HI1, HI2, s3⟩
      have gr := R2.out.lt
      have x0 := (X2.out.2 0 _ rfl).1; have x1 := (X2.out.2 1 _ rfl).1; have x2 := (X2.out.2 2 _ rfl).1; have x3 := (X2.out.2 3 _ rfl).1; have x4 := (X2.out.2 4 _ rfl).1; have x5 := (X2.out.2 5 _ rfl).1
      have r0 := (R2.out.2 0 _ rfl).1; have r1 := (R2.out.2 1 _ rfl).1; have r2 := (R2.out.2 2 _ rfl).1; have r3 := (R2.out.2 3 _ rfl).1; have r4 := (R2.out.2 4 _ rfl).1; have r5 := (R2.out.2 5 _ rfl).1
      have g0 := (R2.out.2 0 _ rfl).2; have g1 := (R2.out.2 1 _ rfl).2; have g2 := (R2.out.2 2 _ rfl).2; have g3 := (R2.out.2 3 _ rfl).2; have g4 := (R2.out.2 4 _ rfl).2; have g5 := (R2.out.2 5 _ rfl).2
      go_wp2
      refine bodyPost_ret (v := .tuple #[.agg #[.slice (A) n c, .int .i64 (p), .slice (A') n' c', .int .i64 (q), .slice (A5) n5 c5, .int .i64 (z)], .slice A6 k c6]) (by simp [results, Try.results46, go_sem, r0, r1, r2, r3, r4, r5, g0, g1, g2, g3, g4, g5, gr]) rfl ?_
      refine ⟨A6, c6, A5, n5, c5, w1.heap.size, rfl, hc6, hc5, ?_, by omega, ?_, ?_, ?_⟩
      · (repeat (with_reducible refine below_set ?_ (by omega) _))
        exact E2.out
      · simp only [World.size_setCell]; omega
      · refine Ints.more (lo := w0.heap.size) (hi := w1.heap.size) ?_ (by omega) (Nat.le_refl _)
        (repeat (with_reducible refine Ints.set_ ?_ (by omega) _))
        exact HI1.out
      · simp only [World.size_setCell]
        refine Ints.more (lo := w1.heap.size) (hi := w2.heap.size) ?_ (Nat.le_refl _) (by omega)
        (repeat (with_reducible refine Ints.set_ ?_ (by omega) _))
        exact HI2.out
end Go.Proofs.Ytmjmplfhedknhaa
