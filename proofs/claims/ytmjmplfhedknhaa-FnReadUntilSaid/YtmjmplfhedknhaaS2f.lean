/- The model's readFull and readUntil. -/
import Derived.Test.YtmjmplfhedknhaaS2e
namespace Go.Proofs.Ytmjmplfhedknhaa
open Go.ChangeShapes Go.WideShapes Go.ChangeAt Go.RowKit
set_option linter.unusedSimpArgs false
set_option linter.unusedVariables false
set_option maxRecDepth 10000

/-- What the model's loops give: the same memory but for what is read ahead, and a list in new memory. -/
def SWorkPost (A : Option Addr) (n c : Nat) (A' : Option Addr) (n' c' : Nat) (z : Int) (A2 : Option Addr) (n2 M C : Nat) (o : Rs) (w : World) (e : Ending) (w' : World) : Prop :=
  ∃ A1 n1 c1 A5 n5 c5 M' C', e = .returned (.tuple #[.agg #[.slice (A) n c, .int .i64 (o.p), .slice (A') n' c', .int .i64 ((o.a : Int)), .slice (A5) n5 c5, .int .i64 (z)], .slice A1 n1 c1, .int .i64 o.st]) ∧ n1 ≤ c1 ∧ n5 ≤ c5 ∧ Below w.heap.size w w' ∧ Ints w' M' C' A5 n5 o.r ∧ C' ≤ w'.heap.size ∧ ((A5 = A2 ∧ n5 = n2 ∧ M' = M ∧ C' = C) ∨ w.heap.size ≤ M') ∧ Ints w' w.heap.size w'.heap.size A1 n1 o.out ∧ Apart A1 n1 A5 n5
set_option maxHeartbeats 4000000 in
theorem sReadFull0_any {A A' A2 : Option Addr} {n c n' c' n2 c2 a N : Nat} {D S R : List Int} {p z : Int} {w : World} {L L' B B' M C : Nat} (h : Ints w L B A n D) (h' : Ints w L' B' A' n' S) (g : Ints w M C A2 n2 R) (hB : B ≤ w.heap.size) (hB' : B' ≤ w.heap.size) (hC : C ≤ w.heap.size)
    (hnc : n ≤ c) (hn2 : n2 ≤ c2) (hv : validD D p S (a : Int) = true) (ha : a ≤ 900) (hz : 1 ≤ z) (hz' : z ≤ 60) (hK : R.length + (D.length - p.toNat) ≤ 60) (hN : N ≤ 61) :
    Calls Try.prog 52 #[.agg #[.slice (A) n c, .int .i64 (p), .slice (A') n' c', .int .i64 ((a : Int)), .slice (A2) n2 c2, .int .i64 (z)], .int .i64 (N : Int)] w (SWorkPost A n c A' n' c' z A2 n2 M C (fullGo D S z N 62 p a R []) w) := by
  obtain ⟨T, hT⟩ : ∃ T, fullGo D S z N 62 p a R [] = T := ⟨_, rfl⟩
  rw [hT]
  have HT := Lib.hid hT
  have HV := Lib.hid hv
  have G1 : Hid (Ints ((w.alloc (.cells #[.slice (A) n c, .int .i64 (p), .slice (A') n' c', .int .i64 ((a : Int)), .slice (A2) n2 c2, .int .i64 (z)] 27)).alloc (.cells #[.slice none 0 0, .int .i64 0, .slice none 0 0, .int .i64 0, .slice none 0 0, .int .i64 0] 27)) M C A2 n2 R) := (g.alloc hC _).alloc (by first | omega | (simp; omega) | (simp; done)) _
  have X0 : Hid (Box ((w.alloc (.cells #[.slice (A) n c, .int .i64 (p), .slice (A') n' c', .int .i64 ((a : Int)), .slice (A2) n2 c2, .int .i64 (z)] 27)).alloc (.cells #[.slice none 0 0, .int .i64 0, .slice none 0 0, .int .i64 0, .slice none 0 0, .int .i64 0] 27)) w.heap.size [.slice (A) n c, .int .i64 (p), .slice (A') n' c', .int .i64 ((a : Int)), .slice (A2) n2 c2, .int .i64 (z)]) := (Box.new w 27 [.slice (A) n c, .int .i64 (p), .slice (A') n' c', .int .i64 ((a : Int)), .slice (A2) n2 c2, .int .i64 (z)]).alloc _
  have R0 : Hid (Box ((w.alloc (.cells #[.slice (A) n c, .int .i64 (p), .slice (A') n' c', .int .i64 ((a : Int)), .slice (A2) n2 c2, .int .i64 (z)] 27)).alloc (.cells #[.slice none 0 0, .int .i64 0, .slice none 0 0, .int .i64 0, .slice none 0 0, .int .i64 0] 27)) (w.heap.size + 1) [.slice none 0 0, .int .i64 0, .slice none 0 0, .int .i64 0, .slice none 0 0, .int .i64 0]) := by
    have hx := Box.new (w.alloc (.cells #[.slice (A) n c, .int .i64 (p), .slice (A') n' c', .int .i64 ((a : Int)), .slice (A2) n2 c2, .int .i64 (z)] 27)) 27 [.slice none 0 0, .int .i64 0, .slice none 0 0, .int .i64 0, .slice none 0 0, .int .i64 0]
    rw [World.size_alloc] at hx
    exact hx
  have E0 : Hid (Below w.heap.size w ((w.alloc (.cells #[.slice (A) n c, .int .i64 (p), .slice (A') n' c', .int .i64 ((a : Int)), .slice (A2) n2 c2, .int .i64 (z)] 27)).alloc (.cells #[.slice none 0 0, .int .i64 0, .slice none 0 0, .int .i64 0, .slice none 0 0, .int .i64 0] 27))) := (by go_grown : Below w.heap.size w _)
  have s0 : (((w.alloc (.cells #[.slice (A) n c, .int .i64 (p), .slice (A') n' c', .int .i64 ((a : Int)), .slice (A2) n2 c2, .int .i64 (z)] 27)).alloc (.cells #[.slice none 0 0, .int .i64 0, .slice none 0 0, .int .i64 0, .slice none 0 0, .int .i64 0] 27))).heap.size = w.heap.size + 2 := by simp
  have HD := Lib.hid h
  have HS := Lib.hid h'
  clear g hT hv h h'
  go_enter Try.func52, Try.ntmps52
  go_upto_region 1 with (fail)
  refine wp_rename (fun w0 => Hid (Ints w0 M C A2 n2 R) ∧ Hid (Box w0 w.heap.size [.slice (A) n c, .int .i64 (p), .slice (A') n' c', .int .i64 ((a : Int)), .slice (A2) n2 c2, .int .i64 (z)]) ∧ Hid (Box w0 (w.heap.size + 1) [.slice none 0 0, .int .i64 0, .slice none 0 0, .int .i64 0, .slice none 0 0, .int .i64 0]) ∧ Hid (Below w.heap.size w w0) ∧ w0.heap.size = w.heap.size + 2) ⟨G1, X0, R0, E0, s0⟩ ?_
  clear G1 X0 R0 E0 s0
  rintro w0 ⟨G1, X0, R0, E0, s0⟩
  go_wp2
  go_loopw [7] (fun o wr => ∃ (j m co : Nat) (Ao : Option Addr) (out : List Int) (p' : Int) (a' : Nat) (R' : List Int) (A5 : Option Addr) (n5 c5 M' C' : Nat), o = .slice Ao m co ∧ j ≤ m ∧ m ≤ N ∧ m ≤ 60 ∧ a' ≤ a + m ∧ n5 ≤ c5 ∧ w.heap.size + 2 ≤ wr.heap.size ∧ C' ≤ wr.heap.size ∧ ((A5 = A2 ∧ n5 = n2 ∧ M' = M ∧ C' = C) ∨ w.heap.size + 2 ≤ M') ∧ Hid (OwnI wr (w.heap.size + 2) (.slice Ao m co) m out) ∧ Hid (∀ x ∈ out, okInt x) ∧ Hid (Clear (.slice Ao m co) M' C') ∧ Hid (Below w.heap.size w wr) ∧ Hid (Box wr w.heap.size [.slice (A) n c, .int .i64 (p'), .slice (A') n' c', .int .i64 ((a' : Int)), .slice (A5) n5 c5, .int .i64 (z)]) ∧ Hid (Box wr (w.heap.size + 1) [.slice none 0 0, .int .i64 0, .slice none 0 0, .int .i64 0, .slice none 0 0, .int .i64 0]) ∧ Hid (Ints wr M' C' A5 n5 R') ∧ Hid (validD D p' S (a' : Int) = true) ∧ m + R'.length + (D.length - p'.toNat) ≤ 60 ∧ Hid (fullGo D S z N (62 - j) p' a' R' out = T)) (fun o _ => N - lenV o)
  case atStart =>
    refine ⟨0, 0, 0, some ⟨w.heap.size + 2, 0, none⟩, [], p, a, R, A2, n2, c2, M, C, rfl, by omega, by omega, by omega, by omega, hn2, by simp; omega, by simp; omega, .inl ⟨rfl, rfl, rfl, rfl⟩, (by have h := OwnI.made w0 (base := w.heap.size + 2) (by omega); rw [s0] at h; exact h), fun x hx => (by cases hx), ?_, E0.out.alloc (by omega) _, X0.out.alloc _, R0.out.alloc _, G1.out.alloc (by omega) _, HV, by omega, HT⟩
    intro k hk
    injection hk with hk
    have hk2 : w.heap.size + 2 = k := hk
    exact .inr (by omega)
  case round =>
    clear G1 X0 R0 E0 s0 HV HT
    obtain ⟨j, m, co, Ao, out, p', a', R', A5, n5, c5, M', C', rfl, hj, hm, hm60, ha', hc5, hsz, hC', hor, ho, hok, hcl, hb, hX, hR0, hR, hv, hk, hg⟩ := hrel
    have hml : m = out.length := ho.out.len
    by_cases hlt : m < N
    · have hlti : (m : Int) < (N : Int) := by omega
      obtain ⟨k, hkN⟩ : ∃ k : Nat, k = N - m := ⟨_, rfl⟩
      have hw : IntKind.i64.wrap ((N : Int) - (m : Int)) = (k : Int) := by rw [IntWalk.i64_in _ (by omega)]; omega
      obtain ⟨hv1, hk1, hpos, ha1⟩ := fl_step (R := R') hv.out (by omega) hz
      have hrec := hg.out
      rw [show 62 - j = (62 - (j + 1)) + 1 from by omega, fullGo, if_neg (by omega)] at hrec
      have HREC := Lib.hid hrec
      have HV1 := Lib.hid hv1
      have HKN := Lib.hid hkN
      have HML := Lib.hid hml
      have HP := Lib.hid hpos
      clear hrec hg hv1 hkN hml hpos
      have x0 := (hX.out.2 0 _ rfl).1; have x1 := (hX.out.2 1 _ rfl).1; have x2 := (hX.out.2 2 _ rfl).1; have x3 := (hX.out.2 3 _ rfl).1; have x4 := (hX.out.2 4 _ rfl).1; have x5 := (hX.out.2 5 _ rfl).1
      go_wp2_with fail
      clear x0 x1 x2 x3 x4 x5
      refine (filled_any (HD.out.below hb.out hB) (HS.out.below hb.out hB') hR.out (by omega) (by omega) (by omega) hnc hc5 hv.out (by omega) hz hz').mono ?_
      rintro e w1 ⟨A6, n6, c6, M6, C6, rfl, hc6, hb1, hi1, hC6, hor1⟩
      have hs1 := hb1.size
      have HO1 := Lib.hid (ho.out.below hb1 (Nat.le_refl _))
      have X1 := Lib.hid (hX.out.below hb1 (by omega))
      have R1 := Lib.hid (hR0.out.below hb1 (by omega))
      have E1 := Lib.hid (below_step hb1 hb.out (by omega))
      have HI1 := Lib.hid hi1
      have HC1 : Hid (Clear (.slice Ao m co) M6 C6) := by
        show Clear _ _ _
        rcases hor1 with ⟨_, _, rfl, rfl⟩ | h
        · exact hcl.out
        · exact ho.out.clear h
      have hor2 : (A6 = A2 ∧ n6 = n2 ∧ M6 = M ∧ C6 = C) ∨ w.heap.size + 2 ≤ M6 := by
        rcases hor1 with ⟨rfl, rfl, rfl, rfl⟩ | h
        · exact hor
        · exact .inr (by omega)
      have hfar : w.heap.size < M6 ∨ C6 ≤ w.heap.size := by
        rcases hor2 with ⟨_, _, _, rfl⟩ | h
        · exact .inr hC
        · exact .inl (by omega)
      clear hb1 hi1 hor1 hor ho hX hR0 hb hR hcl hv
      obtain ⟨st, hst⟩ : ∃ st, flS D S p' a' R' = st := ⟨_, rfl⟩
      obtain ⟨p1, hp1⟩ : ∃ p1, flP D S z p' a' R' = p1 := ⟨_, rfl⟩
      obtain ⟨a1, ha1'⟩ : ∃ a1, flA a' R' = a1 := ⟨_, rfl⟩
      obtain ⟨R1', hR1'⟩ : ∃ R1', flR D S z p' a' R' = R1' := ⟨_, rfl⟩
      rw [hst, hp1, ha1', hR1'] at HREC
      rw [hst, hR1'] at HP
      rw [hp1, ha1'] at HV1
      rw [hp1, hR1'] at hk1
      rw [ha1'] at ha1
      rw [hR1'] at HI1
      rw [hst, hp1, ha1']
      clear hst hp1 ha1' hR1'
      go_upto_region 4 with (fail)
      refine wp_rename (fun w2 => Hid (Box w2 w1.heap.size [.slice (A) n c, .int .i64 (p1), .slice (A') n' c', .int .i64 ((a1 : Int)), .slice (A6) n6 c6, .int .i64 (z)]) ∧ Hid (Box w2 w.heap.size [.slice (A) n c, .int .i64 (p'), .slice (A') n' c', .int .i64 ((a' : Int)), .slice (A5) n5 c5, .int .i64 (z)]) ∧ Hid (Box w2 (w.heap.size + 1) [.slice none 0 0, .int .i64 0, .slice none 0 0, .int .i64 0, .slice none 0 0, .int .i64 0]) ∧ Hid (Below w.heap.size w w2) ∧ Hid (Ints w2 M6 C6 A6 n6 R1') ∧ Hid (OwnI w2 (w.heap.size + 2) (.slice Ao m co) m out) ∧ w1.heap.size < w2.heap.size) ⟨Box.new w1 27 [.slice (A) n c, .int .i64 (p1), .slice (A') n' c', .int .i64 ((a1 : Int)), .slice (A6) n6 c6, .int .i64 (z)], X1.out.alloc _, R1.out.alloc _, E1.out.alloc (by omega) _, HI1.out.alloc hC6 _, HO1.out.alloc _, by simp⟩ ?_
      clear X1 R1 E1 HI1 HO1
      rintro w2 ⟨Y2, X2, R2, E2, HI2, HO2, s2⟩
      have y0 := (Y2.out.2 0 _ rfl).1; have y1 := (Y2.out.2 1 _ rfl).1; have y2 := (Y2.out.2 2 _ rfl).1; have y3 := (Y2.out.2 3 _ rfl).1; have y4 := (Y2.out.2 4 _ rfl).1; have y5 := (Y2.out.2 5 _ rfl).1
      have x0 := (X2.out.2 0 _ rfl).1; have x1 := (X2.out.2 1 _ rfl).1; have x2 := (X2.out.2 2 _ rfl).1; have x3 := (X2.out.2 3 _ rfl).1; have x4 := (X2.out.2 4 _ rfl).1; have x5 := (X2.out.2 5 _ rfl).1
      have f0 := (X2.out.2 0 _ rfl).2; have f1 := (X2.out.2 1 _ rfl).2; have f2 := (X2.out.2 2 _ rfl).2; have f3 := (X2.out.2 3 _ rfl).2; have f4 := (X2.out.2 4 _ rfl).2; have f5 := (X2.out.2 5 _ rfl).2
      go_upto_region 5 with (fail)
      clear y0 y1 y2 y3 y4 y5
      clear x0 x1 x2 x3 x4 x5
      clear f0 f1 f2 f3 f4 f5
      refine wp_rename (fun w3 => Hid (Box w3 w.heap.size [.slice (A) n c, .int .i64 (p1), .slice (A') n' c', .int .i64 ((a1 : Int)), .slice (A6) n6 c6, .int .i64 (z)]) ∧ Hid (Box w3 (w.heap.size + 1) [.slice none 0 0, .int .i64 0, .slice none 0 0, .int .i64 0, .slice none 0 0, .int .i64 0]) ∧ Hid (Below w.heap.size w w3) ∧ Hid (Ints w3 M6 C6 A6 n6 R1') ∧ Hid (OwnI w3 (w.heap.size + 2) (.slice Ao m co) m out) ∧ w1.heap.size < w3.heap.size) ⟨?_, ?_, ?_, ?_, ?_, ?_⟩ ?_
      · have hx := (((((X2.out.put (i := 0) (by simp) (.slice A n c)).put (i := 1) (by simp) (.int .i64 p1)).put (i := 2) (by simp) (.slice A' n' c')).put (i := 3) (by simp) (.int .i64 (a1 : Int))).put (i := 4) (by simp) (.slice A6 n6 c6)).put (i := 5) (by simp) (.int .i64 z)
        show Box _ _ _
        simpa using hx
      · show Box _ _ _
        (repeat (with_reducible refine Box.set_ ?_ (by omega) _))
        exact R2.out
      · show Below _ _ _
        (repeat (with_reducible refine below_set ?_ (by omega) _))
        exact E2.out
      · show Ints _ _ _ _ _ _
        (repeat (with_reducible refine Ints.set_ ?_ (by omega) _))
        exact HI2.out
      · show OwnI _ _ _ _ _
        (repeat (with_reducible refine OwnI.set_ ?_ (by omega) _))
        exact HO2.out
      · simp only [World.size_setCell]; omega
      clear Y2 X2 R2 E2 HI2 HO2 s2
      rintro w3 ⟨X3, R3, E3, HI3, HO3, s3⟩
      by_cases hst : st = 0
      · subst hst
        have hg60 : n6 ≤ 1000 := by have := HI3.out.len; omega
        obtain ⟨mm, hmm⟩ : ∃ mm, mm = min k n6 := ⟨_, rfl⟩
        have hmm2 : mm ≤ k ∧ mm ≤ n6 := by omega
        have hR : Hid (fullGo D S z N (62 - (j + 1)) p1 a1 (List.drop mm R1') (out ++ List.take mm R1') = T) := by
          show _ = T
          have h1 := HREC.out
          have h2 := HI3.out.len
          rw [if_pos rfl, ← HML.out, ← HKN.out, ← h2, ← hmm] at h1
          exact h1
        have hpm : 1 ≤ mm := by have := HP.out rfl; have := HI3.out.len; have := HKN.out; omega
        have HMM := Lib.hid hmm
        have hmN : m + mm ≤ N := by have := HKN.out; omega
        have hmR : mm ≤ R1'.length := by have := HI3.out.len; omega
        have hk1000 : k ≤ 1000 := by have := HKN.out; omega
        clear HREC hmm
        have x0 := (X3.out.2 0 _ rfl).1; have x1 := (X3.out.2 1 _ rfl).1; have x2 := (X3.out.2 2 _ rfl).1; have x3 := (X3.out.2 3 _ rfl).1; have x4 := (X3.out.2 4 _ rfl).1; have x5 := (X3.out.2 5 _ rfl).1
        go_wp2_with fail
        clear x0 x1 x2 x3 x4 x5
        refine (given_any HI3.out (by omega) hc6 hg60 hk1000 HMM.out).mono ?_
        rintro e w4 ⟨A7, c7, A8, n8, c8, Y, rfl, hc7, hc8, hb4, hY1, hY2, hi7, hi8⟩
        have hs4 := hb4.size
        have HO4 := Lib.hid (HO3.out.below hb4 (Nat.le_refl _))
        have X4 := Lib.hid (X3.out.below hb4 (by omega))
        have R4 := Lib.hid (R3.out.below hb4 (by omega))
        have E4 := Lib.hid (below_step hb4 E3.out (by omega))
        have HI7 := Lib.hid hi7
        have HI8 := Lib.hid hi8
        have HC4 : Hid (Clear (.slice Ao m co) Y w4.heap.size) := HO3.out.clear hY1
        clear hb4 hi7 hi8 HO3 X3 R3 E3 HI3 HC1
        go_upto_region 8 with (fail)
        refine wp_rename (fun w5 => Hid (Box w5 w4.heap.size [.slice (A) n c, .int .i64 (p1), .slice (A') n' c', .int .i64 ((a1 : Int)), .slice (A8) n8 c8, .int .i64 (z)]) ∧ Hid (Box w5 w.heap.size [.slice (A) n c, .int .i64 (p1), .slice (A') n' c', .int .i64 ((a1 : Int)), .slice (A6) n6 c6, .int .i64 (z)]) ∧ Hid (Box w5 (w.heap.size + 1) [.slice none 0 0, .int .i64 0, .slice none 0 0, .int .i64 0, .slice none 0 0, .int .i64 0]) ∧ Hid (Below w.heap.size w w5) ∧ Hid (Ints w5 w3.heap.size Y A7 mm (R1'.take mm)) ∧ Hid (Ints w5 Y w4.heap.size A8 n8 (R1'.drop mm)) ∧ Hid (OwnI w5 (w.heap.size + 2) (.slice Ao m co) m out) ∧ w4.heap.size < w5.heap.size) ⟨Box.new w4 27 [.slice (A) n c, .int .i64 (p1), .slice (A') n' c', .int .i64 ((a1 : Int)), .slice (A8) n8 c8, .int .i64 (z)], X4.out.alloc _, R4.out.alloc _, E4.out.alloc (by omega) _, HI7.out.alloc hY2 _, HI8.out.alloc (Nat.le_refl _) _, HO4.out.alloc _, by simp⟩ ?_
        clear X4 R4 E4 HI7 HI8 HO4
        rintro w5 ⟨Y5, X5, R5, E5, HI7, HI8, HO5, s5⟩
        have y0 := (Y5.out.2 0 _ rfl).1; have y1 := (Y5.out.2 1 _ rfl).1; have y2 := (Y5.out.2 2 _ rfl).1; have y3 := (Y5.out.2 3 _ rfl).1; have y4 := (Y5.out.2 4 _ rfl).1; have y5 := (Y5.out.2 5 _ rfl).1
        have x0 := (X5.out.2 0 _ rfl).1; have x1 := (X5.out.2 1 _ rfl).1; have x2 := (X5.out.2 2 _ rfl).1; have x3 := (X5.out.2 3 _ rfl).1; have x4 := (X5.out.2 4 _ rfl).1; have x5 := (X5.out.2 5 _ rfl).1
        have f0 := (X5.out.2 0 _ rfl).2; have f1 := (X5.out.2 1 _ rfl).2; have f2 := (X5.out.2 2 _ rfl).2; have f3 := (X5.out.2 3 _ rfl).2; have f4 := (X5.out.2 4 _ rfl).2; have f5 := (X5.out.2 5 _ rfl).2
        go_upto_region 9 with (fail)
        clear y0 y1 y2 y3 y4 y5
        clear x0 x1 x2 x3 x4 x5
        clear f0 f1 f2 f3 f4 f5
        refine wp_rename (fun w6 => Hid (Box w6 w.heap.size [.slice (A) n c, .int .i64 (p1), .slice (A') n' c', .int .i64 ((a1 : Int)), .slice (A8) n8 c8, .int .i64 (z)]) ∧ Hid (Box w6 (w.heap.size + 1) [.slice none 0 0, .int .i64 0, .slice none 0 0, .int .i64 0, .slice none 0 0, .int .i64 0]) ∧ Hid (Below w.heap.size w w6) ∧ Hid (Ints w6 w3.heap.size Y A7 mm (R1'.take mm)) ∧ Hid (Ints w6 Y w4.heap.size A8 n8 (R1'.drop mm)) ∧ Hid (OwnI w6 (w.heap.size + 2) (.slice Ao m co) m out) ∧ w4.heap.size < w6.heap.size) ⟨?_, ?_, ?_, ?_, ?_, ?_, ?_⟩ ?_
        · have hx := (((((X5.out.put (i := 0) (by simp) (.slice A n c)).put (i := 1) (by simp) (.int .i64 p1)).put (i := 2) (by simp) (.slice A' n' c')).put (i := 3) (by simp) (.int .i64 (a1 : Int))).put (i := 4) (by simp) (.slice A8 n8 c8)).put (i := 5) (by simp) (.int .i64 z)
          show Box _ _ _
          simpa using hx
        · show Box _ _ _
          (repeat (with_reducible refine Box.set_ ?_ (by omega) _))
          exact R5.out
        · show Below _ _ _
          (repeat (with_reducible refine below_set ?_ (by omega) _))
          exact E5.out
        · show Ints _ _ _ _ _ _
          (repeat (with_reducible refine Ints.set_ ?_ (by omega) _))
          exact HI7.out
        · show Ints _ _ _ _ _ _
          (repeat (with_reducible refine Ints.set_ ?_ (by omega) _))
          exact HI8.out
        · show OwnI _ _ _ _ _
          (repeat (with_reducible refine OwnI.set_ ?_ (by omega) _))
          exact HO5.out
        · simp only [World.size_setCell]; omega
        clear Y5 X5 R5 E5 HI7 HI8 HO5 s5
        rintro w6 ⟨X6, R6, E6, HI7, HI8, HO6, s6⟩
        go_wp2_with (at_builtin; refine wpList_append_at rfl _ _ rfl (w.heap.size + 2) (.slice Ao m co) m _ rfl HO6.out _ mm c7 _ rfl HI7.out (by omega) (by omega) ?_)
        intro v' w7 hown hgr hob
        have hok2 : ∀ x ∈ out ++ List.take mm R1', okInt x := by
          intro x hx
          rcases List.mem_append.1 hx with h | h
          · exact hok.out x h
          · exact HI7.out.ok x h
        obtain ⟨A3, c3, rfl, _, _⟩ := hown.ints hok2
        have HO7 := Lib.hid hown
        have HK7 := Lib.hid hok2
        have hk6 : ∀ k, k < w.heap.size + 2 → w7.heap[k]? = w6.heap[k]? := fun k hk => hgr.block k (by omega) (fun e => by have := (HO6.out.lt k e.symm).1; omega)
        have hs7 := hgr.size
        have X7 := Lib.hid (X6.out.block (hk6 _ (by omega)) hs7)
        have R7 := Lib.hid (R6.out.block (hk6 _ (by omega)) hs7)
        have E7 := Lib.hid (E6.out.trans ((below_grown HO6.out hgr (by omega)).mono (by omega)))
        have I7 := Lib.hid (HI8.out.grown hgr HC4.out (by omega))
        have HC7 := Lib.hid (HC4.out.later (s := w6.heap.size) (by omega) hob)
        have hdl : (List.drop mm R1').length ≤ R1'.length - mm := by rw [List.length_drop]; omega
        clear hown hok2 hgr hob hk6 X6 R6 E6 HI7 HI8 HO6
        go_wp2
        go_roundw
        case rel => exact ⟨j + 1, m + mm, c3, A3, _, _, _, _, A8, n8, c8, Y, w4.heap.size, rfl, by omega, by omega, by omega, by omega, hc8, by omega, by omega, .inr (by omega), HO7, HK7, HC7, E7, X7, R7, I7, HV1, by omega, hR⟩
        case measure => simp [lenV]; omega
      · have hne : (st != 0) = true := by simpa using hst
        have HTT : Hid (T = ⟨p1, a1, R1', out, st⟩) := by
          show T = _
          have h1 := HREC.out
          rw [if_neg hst] at h1
          exact h1.symm
        clear HREC hst HP
        obtain ⟨A3, c3, e3, hc3, hi3⟩ := HO3.out.ints hok.out
        injection e3 with e1 _ e2
        subst e1; subst e2
        have HI9 := Lib.hid hi3
        have HAP := Lib.hid (HO3.out.apart HC1.out HI3.out)
        clear hi3
        have x0 := (X3.out.2 0 _ rfl).1; have x1 := (X3.out.2 1 _ rfl).1; have x2 := (X3.out.2 2 _ rfl).1; have x3 := (X3.out.2 3 _ rfl).1; have x4 := (X3.out.2 4 _ rfl).1; have x5 := (X3.out.2 5 _ rfl).1
        have r0 := (R3.out.2 0 _ rfl).1; have r1 := (R3.out.2 1 _ rfl).1; have r2 := (R3.out.2 2 _ rfl).1; have r3 := (R3.out.2 3 _ rfl).1; have r4 := (R3.out.2 4 _ rfl).1; have r5 := (R3.out.2 5 _ rfl).1
        have g0 := (R3.out.2 0 _ rfl).2; have g1 := (R3.out.2 1 _ rfl).2; have g2 := (R3.out.2 2 _ rfl).2; have g3 := (R3.out.2 3 _ rfl).2; have g4 := (R3.out.2 4 _ rfl).2; have g5 := (R3.out.2 5 _ rfl).2
        go_wp2
        refine bodyPost_ret (v := .tuple #[.agg #[.slice (A) n c, .int .i64 (p1), .slice (A') n' c', .int .i64 ((a1 : Int)), .slice (A6) n6 c6, .int .i64 (z)], .slice Ao m co, .int .i64 st]) (by simp [results, Try.results52, go_sem, r0, r1, r2, r3, r4, r5, g0, g1, g2, g3, g4, g5]) rfl ?_
        rw [HTT.out]
        refine ⟨Ao, m, co, A6, n6, c6, M6, C6, rfl, hc3, hc6, ?_, ?_, ?_, ?_, ?_, HAP.out⟩
        · (repeat (with_reducible refine below_set ?_ (by omega) _))
          exact E3.out
        · (repeat (with_reducible refine Ints.set_ ?_ (by omega) _))
          exact HI3.out
        · simp only [World.size_setCell]; omega
        · rcases hor2 with h | h
          · exact .inl h
          · exact .inr (by omega)
        · simp only [World.size_setCell]
          refine Ints.more (lo := w.heap.size + 2) (hi := w3.heap.size) ?_ (by omega) (by omega)
          (repeat (with_reducible refine Ints.set_ ?_ (by omega) _))
          exact HI9.out
    · have hlti : ¬ (m : Int) < (N : Int) := by omega
      have HTT : Hid (T = ⟨p', a', R', out, 0⟩) := by
        show T = _
        have h1 := hg.out
        rw [show 62 - j = (62 - (j + 1)) + 1 from by omega, fullGo, if_pos (by omega)] at h1
        exact h1.symm
      have hfar : w.heap.size + 1 < M' ∨ C' ≤ w.heap.size + 1 := by
        rcases hor with ⟨_, _, _, rfl⟩ | h
        · exact .inr (by omega)
        · exact .inl (by omega)
      clear hg hml
      obtain ⟨A3, c3, e3, hc3, hi3⟩ := ho.out.ints hok.out
      injection e3 with e1 _ e2
      subst e1; subst e2
      have HI9 := Lib.hid hi3
      have HAP := Lib.hid (ho.out.apart hcl.out hR.out)
      clear hi3
      have x0 := (hX.out.2 0 _ rfl).1; have x1 := (hX.out.2 1 _ rfl).1; have x2 := (hX.out.2 2 _ rfl).1; have x3 := (hX.out.2 3 _ rfl).1; have x4 := (hX.out.2 4 _ rfl).1; have x5 := (hX.out.2 5 _ rfl).1
      have r0 := (hR0.out.2 0 _ rfl).1; have r1 := (hR0.out.2 1 _ rfl).1; have r2 := (hR0.out.2 2 _ rfl).1; have r3 := (hR0.out.2 3 _ rfl).1; have r4 := (hR0.out.2 4 _ rfl).1; have r5 := (hR0.out.2 5 _ rfl).1
      have g0 := (hR0.out.2 0 _ rfl).2; have g1 := (hR0.out.2 1 _ rfl).2; have g2 := (hR0.out.2 2 _ rfl).2; have g3 := (hR0.out.2 3 _ rfl).2; have g4 := (hR0.out.2 4 _ rfl).2; have g5 := (hR0.out.2 5 _ rfl).2
      go_wp2
      refine bodyPost_ret (v := .tuple #[.agg #[.slice (A) n c, .int .i64 (p'), .slice (A') n' c', .int .i64 ((a' : Int)), .slice (A5) n5 c5, .int .i64 (z)], .slice Ao m co, .int .i64 0]) (by simp [results, Try.results52, go_sem, r0, r1, r2, r3, r4, r5, g0, g1, g2, g3, g4, g5]) rfl ?_
      rw [HTT.out]
      refine ⟨Ao, m, co, A5, n5, c5, M', C', rfl, hc3, hc5, ?_, ?_, ?_, ?_, ?_, HAP.out⟩
      · (repeat (with_reducible refine below_set ?_ (by omega) _))
        exact hb.out
      · (repeat (with_reducible refine Ints.set_ ?_ (by omega) _))
        exact hR.out
      · simp only [World.size_setCell]; omega
      · rcases hor with h | h
        · exact .inl h
        · exact .inr (by omega)
      · simp only [World.size_setCell]
        refine Ints.more (lo := w.heap.size + 2) (hi := wr.heap.size) ?_ (by omega) (by omega)
        (repeat (with_reducible refine Ints.set_ ?_ (by omega) _))
        exact HI9.out
end Go.Proofs.Ytmjmplfhedknhaa
