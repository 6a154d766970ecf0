/- Contracts of the drawing of readers. -/
import Derived.Test.YtmjmplfhedknhaaO3
import Derived.Test.YtmjmplfhedknhaaO4
import Derived.Test.YtmjmplfhedknhaaD8
import Derived.Deep.RegionLaw
namespace Go.Proofs.Ytmjmplfhedknhaa
open Go.ChangeShapes Go.WideShapes Go.ChangeAt Go.RowKit
set_option linter.unusedSimpArgs false
set_option linter.unusedVariables false
set_option maxRecDepth 100000

theorem fullGo_keep {D S : List Int} {z : Int} {N : Nat} (hz : 1 ≤ z) : ∀ (f : Nat) (p : Int) (a : Nat) (R out : List Int), validD D p S (a : Int) = true → a + f ≤ 1000 →
    validD D (fullGo D S z N f p a R out).p S ((fullGo D S z N f p a R out).a : Int) = true ∧ (fullGo D S z N f p a R out).r.length + (D.length - (fullGo D S z N f p a R out).p.toNat) ≤ R.length + (D.length - p.toNat) ∧ (fullGo D S z N f p a R out).a ≤ a + f := by
  intro f
  induction f with
  | zero => intro p a R out hv ha; exact ⟨hv, Nat.le_refl _, Nat.le_refl _⟩
  | succ f ih =>
    intro p a R out hv ha
    obtain ⟨h1, h2, _, h4⟩ := fl_step (R := R) hv (by omega) hz
    simp only [fullGo]
    split
    · exact ⟨hv, Nat.le_refl _, by show a ≤ _; omega⟩
    · split
      · obtain ⟨i1, i2, i3⟩ := ih (flP D S z p a R) (flA a R) ((flR D S z p a R).drop (min (N - out.length) (flR D S z p a R).length)) (out ++ (flR D S z p a R).take (min (N - out.length) (flR D S z p a R).length)) h1 (by omega)
        refine ⟨i1, ?_, by omega⟩
        rw [List.length_drop] at i2
        omega
      · exact ⟨h1, h2, by show flA a R ≤ _; omega⟩
/-- A reader, drawn: its device lies ahead of its row. -/
def RdrDraw (K g P : Nat) (w : World) (e : Ending) (w' : World) : Prop :=
  ∃ A n c A' n' c' A2 n2 c2 D S R p q z M, e = .returned (.agg #[.slice (A) n c, .int .i64 (p), .slice (A') n' c', .int .i64 (q), .slice (A2) n2 c2, .int .i64 (z)]) ∧ (n ≤ c ∧ n' ≤ c') ∧ (n ≤ 61 ∧ n' ≤ 7 ∧ n2 ≤ K) ∧ (-1 ≤ p ∧ p ≤ (K : Int)) ∧ (-1 ≤ q ∧ q ≤ 1001) ∧ (0 ≤ z ∧ z ≤ 17) ∧
    w.heap.size ≤ M ∧ M ≤ w'.heap.size ∧ Ints w' w.heap.size M A n D ∧ Ints w' w.heap.size M A' n' S ∧ RowI w' M w'.heap.size A2 n2 c2 R ∧ Ch w' g P ∧ Turn w.heap.size g w w'
set_option maxHeartbeats 8000000 in
theorem goodReaderOf_any {g P : Nat} {w : World} (h : Ch w g P) (hP : P ≤ 500000) : Calls Try.prog 67 #[.pointer (some ⟨g, 0, none⟩)] w (RdrDraw 60 g (P + 300) w) := by
  have hg := h.lt
  have HCH := Lib.hid (Ch.alloc h (.cells #[.slice none 0 0, .int .i64 0, .slice none 0 0, .int .i64 0, .slice none 0 0, .int .i64 0] 27))
  have R0 := Lib.hid (Box.new w 27 [.slice none 0 0, .int .i64 0, .slice none 0 0, .int .i64 0, .slice none 0 0, .int .i64 0])
  have T0 : Hid (Turn w.heap.size g w (w.alloc (.cells #[.slice none 0 0, .int .i64 0, .slice none 0 0, .int .i64 0, .slice none 0 0, .int .i64 0] 27))) := Turn.of_below (Below.alloc (Below.refl _ _) (Nat.le_refl _) _) (Nat.le_refl _)
  have s0 : w.heap.size + 1 ≤ (w.alloc (.cells #[.slice none 0 0, .int .i64 0, .slice none 0 0, .int .i64 0, .slice none 0 0, .int .i64 0] 27)).heap.size := by simp
  clear h
  go_enter Try.func67, Try.ntmps67
  go_wp2_with fail
  generalize w.alloc (.cells #[.slice none 0 0, .int .i64 0, .slice none 0 0, .int .i64 0, .slice none 0 0, .int .i64 0] 27) = w0 at *
  refine (goodDevice_q HCH.out (by omega)).mono ?_
  rintro e w1 ⟨A, n, c, A', n', c', D, S, p, q, rfl, hn, hn', hn1, hn2, hD, hS, hp, hq, hown, hown', _, hch, ht⟩
  obtain ⟨A1, c1, e1, hc, hI⟩ := hown.ints (fun x hx => by have := hD x hx; unfold okInt; omega)
  injection e1 with e1 _ e3
  subst e1 e3
  obtain ⟨A1, c1, e1, hc', hI'⟩ := hown'.ints (fun x hx => by have := hS x hx; unfold okInt; omega)
  injection e1 with e1 _ e3
  subst e1 e3
  have s1 := ht.size
  have D1 := Lib.hid hI; have S1 := Lib.hid hI'; have HC1 := Lib.hid hch
  have R1 := Lib.hid (R0.out.turn ht (by omega) (by omega))
  have T1 := Lib.hid (T0.out.trans (ht.mono (by omega)))
  clear hown hown' hch ht hD hS hI hI' HCH R0 T0 hn hn'
  go_wp2_with fail
  refine (one_lit [4, 3, 5, 8, 1, 16] HC1.out (by omega) rfl rfl rfl (by decide) (by decide) (by decide)).mono ?_
  rintro e w2 ⟨z, hz, rfl, hch, ht⟩
  have hz2 : 1 ≤ z ∧ z ≤ 16 := by simp at hz; omega
  have s2 := ht.size
  have D2 := Lib.hid (D1.out.turn ht (Nat.le_refl _) (by omega)); have S2 := Lib.hid (S1.out.turn ht (Nat.le_refl _) (by omega)); have HC2 := Lib.hid hch
  have R2 := Lib.hid (R1.out.turn ht (by omega) (by omega))
  have T2 := Lib.hid (T1.out.trans (ht.mono (by omega)))
  clear hz hch ht D1 S1 HC1 R1 T1
  go_wp2_with fail
  refine (SNewReader_own (z := z) D2.out S2.out (by omega) (by omega) (by omega) (by omega) (by unfold okInt; omega) (by unfold okInt; omega)).mono ?_
  rintro e w3 (⟨hv, rfl, hb⟩ | ⟨hv, A3, n3, c3, A3', n3', c3', rfl, hc3, hc3', hb, hd, hd'⟩)
  · have HC3 := Lib.hid (HC2.out.below hb (by omega))
    have R3 := Lib.hid (R2.out.below hb (by omega))
    have T3 := Lib.hid (T2.out.step hb (by omega))
    have s3 := hb.size
    clear hb HC2 R2 T2 D2 S2
    have C4 := Lib.hid (Ch.alloc HC3.out (.cells #[.slice none 0 0, .int .i64 0, .slice none 0 0, .int .i64 0, .slice none 0 0, .int .i64 0] 27)); have R4 := Lib.hid (R3.out.alloc (.cells #[.slice none 0 0, .int .i64 0, .slice none 0 0, .int .i64 0, .slice none 0 0, .int .i64 0] 27))
    have T4 := Lib.hid (T3.out.step (Below.alloc (Below.refl _ w3) (Nat.le_refl _) (.cells #[.slice none 0 0, .int .i64 0, .slice none 0 0, .int .i64 0, .slice none 0 0, .int .i64 0] 27)) (by omega))
    have s4 : w3.heap.size + 1 ≤ (w3.alloc (.cells #[.slice none 0 0, .int .i64 0, .slice none 0 0, .int .i64 0, .slice none 0 0, .int .i64 0] 27)).heap.size := by simp
    clear HC3 R3 T3
    go_upto_region 2 with (fail)
    generalize w3.alloc (.cells #[.slice none 0 0, .int .i64 0, .slice none 0 0, .int .i64 0, .slice none 0 0, .int .i64 0] 27) = w4 at *
    have r0 := (R4.out.2 0 _ rfl).1; have r1 := (R4.out.2 1 _ rfl).1; have r2 := (R4.out.2 2 _ rfl).1; have r3 := (R4.out.2 3 _ rfl).1; have r4 := (R4.out.2 4 _ rfl).1; have r5 := (R4.out.2 5 _ rfl).1
    have f0 := (R4.out.2 0 _ rfl).2; have f1 := (R4.out.2 1 _ rfl).2; have f2 := (R4.out.2 2 _ rfl).2; have f3 := (R4.out.2 3 _ rfl).2; have f4 := (R4.out.2 4 _ rfl).2; have f5 := (R4.out.2 5 _ rfl).2
    go_wp2
    refine bodyPost_ret (v := .agg #[.slice none 0 0, .int .i64 0, .slice none 0 0, .int .i64 0, .slice none 0 0, .int .i64 1]) (by simp [results, Try.results67, go_sem, r0, r1, r2, r3, r4, r5, f0, f1, f2, f3, f4, f5]) rfl ?_
    refine ⟨none, 0, 0, none, 0, 0, none, 0, 0, [], [], [], 0, 0, 1, w.heap.size, rfl, ⟨Nat.le_refl _, Nat.le_refl _⟩, ⟨by omega, by omega, by omega⟩, by omega, by omega, by omega, Nat.le_refl _, ?_, (Ints.nil _ _ _ 0 _).1, (Ints.nil _ _ _ 0 _).1, RowI.nil _ _ _, ?_, ?_⟩
    · simp; omega
    · refine Ch.more (Ch.below C4.out (B := w.heap.size) ?_ hg) (by omega)
      (repeat (with_reducible refine below_set ?_ (by omega) _))
      exact Below.refl _ _
    · refine T4.out.step (C := w.heap.size) ?_ (Nat.le_refl _)
      (repeat (with_reducible refine below_set ?_ (by omega) _))
      exact Below.refl _ _
  · obtain ⟨hvd, hz3, _, _⟩ := validR_iff.1 hv
    obtain ⟨hbD, _, _, hp3, hq3⟩ := validD_iff.1 hvd
    have hD60 := bytesB_le hbD
    obtain ⟨a, rfl⟩ := Int.eq_ofNat_of_zero_le hq.1
    have s3 := hb.size
    have X4 := Lib.hid (Box.new w3 27 [.slice (A3) n3 c3, .int .i64 (p), .slice (A3') n3' c3', .int .i64 ((a : Int)), .slice (none) 0 0, .int .i64 (z)])
    have D4 := Lib.hid (hd.alloc (Nat.le_refl _) (.cells #[.slice (A3) n3 c3, .int .i64 (p), .slice (A3') n3' c3', .int .i64 ((a : Int)), .slice (none) 0 0, .int .i64 (z)] 27)); have S4 := Lib.hid (hd'.alloc (Nat.le_refl _) (.cells #[.slice (A3) n3 c3, .int .i64 (p), .slice (A3') n3' c3', .int .i64 ((a : Int)), .slice (none) 0 0, .int .i64 (z)] 27))
    have HC4 := Lib.hid (Ch.alloc (HC2.out.below hb (by omega)) (.cells #[.slice (A3) n3 c3, .int .i64 (p), .slice (A3') n3' c3', .int .i64 ((a : Int)), .slice (none) 0 0, .int .i64 (z)] 27))
    have R4 := Lib.hid ((R2.out.below hb (by omega)).alloc (.cells #[.slice (A3) n3 c3, .int .i64 (p), .slice (A3') n3' c3', .int .i64 ((a : Int)), .slice (none) 0 0, .int .i64 (z)] 27))
    have T4 := Lib.hid ((T2.out.step hb (by omega)).step (Below.alloc (Below.refl _ w3) (Nat.le_refl _) (.cells #[.slice (A3) n3 c3, .int .i64 (p), .slice (A3') n3' c3', .int .i64 ((a : Int)), .slice (none) 0 0, .int .i64 (z)] 27)) (by omega))
    have s4 : w3.heap.size + 1 ≤ (w3.alloc (.cells #[.slice (A3) n3 c3, .int .i64 (p), .slice (A3') n3' c3', .int .i64 ((a : Int)), .slice (none) 0 0, .int .i64 (z)] 27)).heap.size := by simp
    have HV4 := Lib.hid hvd
    have hn3 : n3 ≤ 61 := by have := hd.len; omega
    have hn3' : n3' ≤ 7 := by have h1 := hd'.len; have h2 := S2.out.len; omega
    clear hb hd hd' hv hvd hbD HC2 R2 T2 D2 S2
    go_wp2_with fail
    generalize w3.alloc (.cells #[.slice (A3) n3 c3, .int .i64 (p), .slice (A3') n3' c3', .int .i64 ((a : Int)), .slice (none) 0 0, .int .i64 (z)] 27) = w4 at *
    refine (pick_any HC4.out (by omega) (by decide)).mono ?_
    rintro e w5 ⟨r, rfl, ⟨hr0, hr1, _⟩, hch, ht⟩
    have hr2 := hr1 (by decide)
    obtain ⟨N, rfl⟩ := Int.eq_ofNat_of_zero_le hr0
    have s5 := ht.size
    have X5 := Lib.hid (X4.out.turn ht (by omega) (by omega)); have D5 := Lib.hid (D4.out.turn ht (by omega) (by omega)); have S5 := Lib.hid (S4.out.turn ht (by omega) (by omega))
    have HC5 := Lib.hid hch; have R5 := Lib.hid (R4.out.turn ht (by omega) (by omega)); have T5 := Lib.hid (T4.out.trans (ht.mono (by omega)))
    clear hr0 hr1 hch ht X4 D4 S4 HC4 R4 T4
    go_wp2
    go_loopw [5] (fun i wr => ∃ (j a' : Nat) (p' : Int) (R' : List Int) (A5 : Option Addr) (n5 c5 : Nat), i = .int .i64 ((j : Nat) : Int) ∧ j ≤ 2 ∧ a' + 62 * j ≤ 130 ∧ R'.length + (D.length - p'.toNat) ≤ 60 ∧ w3.heap.size + 1 ≤ wr.heap.size ∧ Hid (Box wr w3.heap.size [.slice (A3) n3 c3, .int .i64 (p'), .slice (A3') n3' c3', .int .i64 ((a' : Int)), .slice (A5) n5 c5, .int .i64 (z)]) ∧ Hid (Box wr w.heap.size [.slice none 0 0, .int .i64 0, .slice none 0 0, .int .i64 0, .slice none 0 0, .int .i64 0]) ∧ Hid (Ints wr w2.heap.size w3.heap.size A3 n3 D) ∧ Hid (Ints wr w2.heap.size w3.heap.size A3' n3' S) ∧ Hid (RowI wr (w3.heap.size + 1) wr.heap.size A5 n5 c5 R') ∧ Hid (validD D p' S (a' : Int) = true) ∧ Hid (Ch wr g (P + 205 + (2 - j))) ∧ Hid (Turn w.heap.size g w wr)) (fun i _ => (intOf i).toNat)
    case atStart => exact ⟨N, a, p, [], none, 0, 0, rfl, by omega, by omega, by simp; omega, by omega, X5, R5, D5, S5, RowI.nil _ _ _, HV4, HC5.out.more (by omega), T5⟩
    case round =>
      clear X5 R5 D5 S5 HV4 HC5 T5
      obtain ⟨j, a', p', R', A5, n5, c5, rfl, hj, ha', hK, hsz, X6, R6, D6, S6, B6, V6, C6, T6⟩ := hrel
      have hn5 : n5 ≤ 60 := by have := B6.out.len; omega
      have x0 := (X6.out.2 0 _ rfl).1; have x1 := (X6.out.2 1 _ rfl).1; have x2 := (X6.out.2 2 _ rfl).1; have x3 := (X6.out.2 3 _ rfl).1; have x4 := (X6.out.2 4 _ rfl).1; have x5 := (X6.out.2 5 _ rfl).1
      have f0 := (X6.out.2 0 _ rfl).2; have f1 := (X6.out.2 1 _ rfl).2; have f2 := (X6.out.2 2 _ rfl).2; have f3 := (X6.out.2 3 _ rfl).2; have f4 := (X6.out.2 4 _ rfl).2; have f5 := (X6.out.2 5 _ rfl).2
      by_cases hlt : (0 : Int) < (j : Int)
      · go_wp2_with fail
        go_region_law (first | (go_simp; go_at_call 68; refine (pick_any (m := 5) (w := wr.drew) C6.out (by omega) (by decide)).mono ?_; rintro e w7 ⟨r, rfl, ⟨hr0, hr1, _⟩, hch, ht⟩; have hr2 := hr1 (by decide); obtain ⟨k, rfl⟩ := Int.eq_ofNat_of_zero_le hr0; have s7 := ht.size; rw [World.size_drew] at s7; have X7 := Lib.hid (X6.out.drew.turn ht (by simp; omega) (by omega)); have R7 := Lib.hid (R6.out.drew.turn ht (by simp; omega) (by omega)); have D7 := Lib.hid (D6.out.drew.turn ht (by simp; omega) (by omega)); have S7 := Lib.hid (S6.out.drew.turn ht (by simp; omega) (by omega)); have B7 := Lib.hid (B6.out.drew.turn ht (by simp) (by omega)); have T7 := Lib.hid (T6.out.drew.trans (ht.mono (by simp; omega))); have C7 := Lib.hid hch; clear hch ht hr0 hr1; clear x0 x1 x2 x3 x4 x5; clear f0 f1 f2 f3 f4 f5; have x0 := (X7.out.2 0 _ rfl).1; have x1 := (X7.out.2 1 _ rfl).1; have x2 := (X7.out.2 2 _ rfl).1; have x3 := (X7.out.2 3 _ rfl).1; have x4 := (X7.out.2 4 _ rfl).1; have x5 := (X7.out.2 5 _ rfl).1; have f0 := (X7.out.2 0 _ rfl).2; have f1 := (X7.out.2 1 _ rfl).2; have f2 := (X7.out.2 2 _ rfl).2; have f3 := (X7.out.2 3 _ rfl).2; have f4 := (X7.out.2 4 _ rfl).2; have f5 := (X7.out.2 5 _ rfl).2) | (go_simp; go_at_call 52; (with_reducible refine (sReadFull0_own (N := k) D7.out S7.out B7.out (by omega) (by omega) (by omega) hc3 B7.out.cap V6.out (by omega) hz2.1 (by omega) hK (by omega)).mono ?_); rintro e w8 ⟨Al, nl, cl, A6, n6, c6, M6, C6', rfl, _, hc6, hb, hrow, hC6, hor, _, _⟩; have s8 := hb.size; have HB8 := Lib.hid hb; have B8 := Lib.hid hrow; have X8 := Lib.hid (X7.out.below hb (by omega)); clear hb hrow; clear x0 x1 x2 x3 x4 x5; clear f0 f1 f2 f3 f4 f5; have x0 := (X8.out.2 0 _ rfl).1; have x1 := (X8.out.2 1 _ rfl).1; have x2 := (X8.out.2 2 _ rfl).1; have x3 := (X8.out.2 3 _ rfl).1; have x4 := (X8.out.2 4 _ rfl).1; have x5 := (X8.out.2 5 _ rfl).1; have f0 := (X8.out.2 0 _ rfl).2; have f1 := (X8.out.2 1 _ rfl).2; have f2 := (X8.out.2 2 _ rfl).2; have f3 := (X8.out.2 3 _ rfl).2; have f4 := (X8.out.2 4 _ rfl).2; have f5 := (X8.out.2 5 _ rfl).2))
        all_goals
          obtain ⟨k1, k2, k3⟩ := fullGo_keep (N := k) hz2.1 62 p' a' R' [] V6.out (by omega)
          generalize fullGo D S z k 62 p' a' R' [] = T at *
          have hfar : w3.heap.size < M6 ∨ C6' ≤ w3.heap.size := by
            rcases hor with ⟨_, _, rfl, rfl⟩ | h
            · exact .inl (by omega)
            · exact .inl (by omega)
          have hM6 : w3.heap.size + 1 ≤ M6 := by
            rcases hor with ⟨_, _, rfl, rfl⟩ | h
            · exact Nat.le_refl _
            · omega
          have K1 := Lib.hid k1
          clear k1 hor x0 x1 x2 x3 x4 x5 f0 f1 f2 f3 f4 f5
          go_wp2
          go_roundw
          case rel =>
            refine ⟨j - 1, T.a, T.p, T.r, A6, n6, c6, by go_num, by omega, by omega, by omega, ?_, ?_, ?_, ?_, ?_, ?_, K1, ?_, ?_⟩
            · simp; omega
            · show Box _ _ _
              have hx := (((((X8.out.put (i := 0) (by simp) (.slice A3 n3 c3)).put (i := 1) (by simp) (.int .i64 T.p)).put (i := 2) (by simp) (.slice A3' n3' c3')).put (i := 3) (by simp) (.int .i64 (T.a : Int))).put (i := 4) (by simp) (.slice A6 n6 c6)).put (i := 5) (by simp) (.int .i64 z)
              simpa using hx
            · show Box _ _ _
              (repeat (with_reducible refine Box.set_ ?_ (by omega) _))
              exact (R7.out.below HB8.out (by omega))
            · show Ints _ _ _ _ _ _
              (repeat (with_reducible refine Ints.set_ ?_ (by omega) _))
              exact D7.out.below HB8.out (by omega)
            · show Ints _ _ _ _ _ _
              (repeat (with_reducible refine Ints.set_ ?_ (by omega) _))
              exact S7.out.below HB8.out (by omega)
            · show RowI _ _ _ _ _ _ _
              simp only [World.size_setCell, World.size_drew]
              refine RowI.more (lo := M6) (hi := w8.heap.size) ?_ hM6 (Nat.le_refl _)
              (repeat (with_reducible refine RowI.set_ ?_ (by omega) _))
              exact B8.out.more (Nat.le_refl _) hC6
            · refine Ch.more (Ch.below (C7.out.below HB8.out (by omega)) (B := w.heap.size) ?_ hg) (by omega)
              (repeat (with_reducible refine below_set ?_ (by omega) _))
              exact Below.refl _ _
            · refine (T7.out.step HB8.out (by omega)).step (C := w.heap.size) ?_ (Nat.le_refl _)
              (repeat (with_reducible refine below_set ?_ (by omega) _))
              exact Below.refl _ _
          case measure => simp [intOf]; omega
      · have r0 := (R6.out.2 0 _ rfl).1; have r1 := (R6.out.2 1 _ rfl).1; have r2 := (R6.out.2 2 _ rfl).1; have r3 := (R6.out.2 3 _ rfl).1; have r4 := (R6.out.2 4 _ rfl).1; have r5 := (R6.out.2 5 _ rfl).1
        have y0 := (R6.out.2 0 _ rfl).2; have y1 := (R6.out.2 1 _ rfl).2; have y2 := (R6.out.2 2 _ rfl).2; have y3 := (R6.out.2 3 _ rfl).2; have y4 := (R6.out.2 4 _ rfl).2; have y5 := (R6.out.2 5 _ rfl).2
        clear f0 f1 f2 f3 f4 f5
        go_wp2
        refine bodyPost_ret (v := .agg #[.slice (A3) n3 c3, .int .i64 (p'), .slice (A3') n3' c3', .int .i64 ((a' : Int)), .slice (A5) n5 c5, .int .i64 (z)]) (by simp [results, Try.results67, go_sem, r0, r1, r2, r3, r4, r5, y0, y1, y2, y3, y4, y5]) rfl ?_
        obtain ⟨_, _, _, hp6, hq6⟩ := validD_iff.1 V6.out
        refine ⟨A3, n3, c3, A3', n3', c3', A5, n5, c5, D, S, R', p', (a' : Int), z, w3.heap.size, rfl, ⟨hc3, hc3'⟩, ⟨by omega, by omega, by omega⟩, by omega, by omega, by omega, by omega, ?_, ?_, ?_, ?_, ?_, ?_⟩
        · simp; omega
        · refine Ints.more (lo := w2.heap.size) (hi := w3.heap.size) ?_ (by omega) (Nat.le_refl _)
          (repeat (with_reducible refine Ints.set_ ?_ (by omega) _))
          exact D6.out
        · refine Ints.more (lo := w2.heap.size) (hi := w3.heap.size) ?_ (by omega) (Nat.le_refl _)
          (repeat (with_reducible refine Ints.set_ ?_ (by omega) _))
          exact S6.out
        · simp only [World.size_setCell]
          refine RowI.more (lo := w3.heap.size + 1) (hi := wr.heap.size) ?_ (by omega) (Nat.le_refl _)
          (repeat (with_reducible refine RowI.set_ ?_ (by omega) _))
          exact B6.out
        · refine Ch.more (Ch.below C6.out (B := w.heap.size) ?_ hg) (by omega)
          (repeat (with_reducible refine below_set ?_ (by omega) _))
          exact Below.refl _ _
        · refine T6.out.step (C := w.heap.size) ?_ (Nat.le_refl _)
          (repeat (with_reducible refine below_set ?_ (by omega) _))
          exact Below.refl _ _
end Go.Proofs.Ytmjmplfhedknhaa
