/- The drawing of writers. -/
import Derived.Test.YtdiebkaedjlckaaDoorW2
import Derived.Test.YtdiebkaedjlckaaDoorO4
import Derived.Test.YtdiebkaedjlckaaDoorD8
import Derived.Test.YtdiebkaedjlckaaDoorS3a
import Derived.Deep.RegionLaw
import Derived.Deep.AppendLies
namespace Go.Proofs.YtdiebkaedjlckaaDoor
open Go.ChangeShapes Go.WideShapes Go.ChangeAt Go.RowKit
set_option linter.unusedSimpArgs false
set_option linter.unusedVariables false
set_option maxRecDepth 100000

/-- A new writer: none, or one with nothing in Buf. -/
def NewWP (D : List Int) (p : Int) (S : List Int) (q z : Int) (w : World) (e : Ending) (w' : World) : Prop :=
  (validW D p S q [] z = false ∧ e = .returned (.tuple #[.agg #[.slice none 0 0, .int .i64 0, .slice none 0 0, .int .i64 0, .slice none 0 0, .int .i64 0], .bool false]) ∧ Below w.heap.size w w') ∨
  (validW D p S q [] z = true ∧ ∃ A n c A' n' c', e = .returned (.tuple #[.agg #[.slice (A) n c, .int .i64 (p), .slice (A') n' c', .int .i64 (q), .slice (none) 0 0, .int .i64 (z)], .bool true]) ∧ n ≤ c ∧ n' ≤ c' ∧ Below w.heap.size w w' ∧ Ints w' w.heap.size w'.heap.size A n D ∧ Ints w' w.heap.size w'.heap.size A' n' S)
set_option maxHeartbeats 2000000 in
theorem SNewWriter_own {A A' : Option Addr} {n c n' c' : Nat} {D S : List Int} {p q z : Int} {w : World} {L L' B B' : Nat} (h : Ints w L B A n D) (h' : Ints w L' B' A' n' S) (hB : B ≤ w.heap.size) (hB' : B' ≤ w.heap.size) (hn : n ≤ 1048576) (hn' : n' ≤ 1048576) (hp : okInt p) (hq : okInt q) :
    Calls Tryd.prog 133 #[.agg #[.slice (A) n c, .int .i64 (p), .slice (A') n' c', .int .i64 (q)], .int .i64 z] w (NewWP D p S q z w) := by
  have HL := Lib.hid h.len
  have H1 : Hid (Ints ((w.alloc (.cells #[.slice (A) n c, .int .i64 (p), .slice (A') n' c', .int .i64 (q)] 28)).alloc (.cells #[.slice none 0 0, .int .i64 0, .slice none 0 0, .int .i64 0, .slice none 0 0, .int .i64 0] 30)) L B A n D) := (h.alloc hB _).alloc (by first | omega | (simp; omega) | (simp; done)) _
  have H2 : Hid (Ints ((w.alloc (.cells #[.slice (A) n c, .int .i64 (p), .slice (A') n' c', .int .i64 (q)] 28)).alloc (.cells #[.slice none 0 0, .int .i64 0, .slice none 0 0, .int .i64 0, .slice none 0 0, .int .i64 0] 30)) L' B' A' n' S) := (h'.alloc hB' _).alloc (by first | omega | (simp; omega) | (simp; done)) _
  have X0 : Hid (Box ((w.alloc (.cells #[.slice (A) n c, .int .i64 (p), .slice (A') n' c', .int .i64 (q)] 28)).alloc (.cells #[.slice none 0 0, .int .i64 0, .slice none 0 0, .int .i64 0, .slice none 0 0, .int .i64 0] 30)) w.heap.size [.slice (A) n c, .int .i64 (p), .slice (A') n' c', .int .i64 (q)]) := (Box.new w 28 [.slice (A) n c, .int .i64 (p), .slice (A') n' c', .int .i64 (q)]).alloc _
  have R0 : Hid (Box ((w.alloc (.cells #[.slice (A) n c, .int .i64 (p), .slice (A') n' c', .int .i64 (q)] 28)).alloc (.cells #[.slice none 0 0, .int .i64 0, .slice none 0 0, .int .i64 0, .slice none 0 0, .int .i64 0] 30)) (w.heap.size + 1) [.slice none 0 0, .int .i64 0, .slice none 0 0, .int .i64 0, .slice none 0 0, .int .i64 0]) := by
    have hx := Box.new (w.alloc (.cells #[.slice (A) n c, .int .i64 (p), .slice (A') n' c', .int .i64 (q)] 28)) 30 [.slice none 0 0, .int .i64 0, .slice none 0 0, .int .i64 0, .slice none 0 0, .int .i64 0]
    rw [World.size_alloc] at hx
    exact hx
  have E0 : Hid (Below w.heap.size w ((w.alloc (.cells #[.slice (A) n c, .int .i64 (p), .slice (A') n' c', .int .i64 (q)] 28)).alloc (.cells #[.slice none 0 0, .int .i64 0, .slice none 0 0, .int .i64 0, .slice none 0 0, .int .i64 0] 30))) := (by go_grown : Below w.heap.size w _)
  have s0 : ((w.alloc (.cells #[.slice (A) n c, .int .i64 (p), .slice (A') n' c', .int .i64 (q)] 28)).alloc (.cells #[.slice none 0 0, .int .i64 0, .slice none 0 0, .int .i64 0, .slice none 0 0, .int .i64 0] 30)).heap.size = w.heap.size + 2 := by simp
  clear h h'
  go_enter Tryd.func133, Tryd.ntmps133
  go_wp2_with fail
  generalize (w.alloc (.cells #[.slice (A) n c, .int .i64 (p), .slice (A') n' c', .int .i64 (q)] 28)).alloc (.cells #[.slice none 0 0, .int .i64 0, .slice none 0 0, .int .i64 0, .slice none 0 0, .int .i64 0] 30) = w0 at *
  refine (sCopyDevice_any H1.out H2.out (by omega) (by omega) hn hn' hp hq).mono ?_
  rintro e w1 ⟨A3, n3, c3, A3', n3', c3', rfl, ⟨hc3, hc3'⟩, hb1, hd, hd', ha, _, _⟩
  have s1 := hb1.size
  have D1 := Lib.hid (hd.alloc (Nat.le_refl _) (.cells #[.slice (A3) n3 c3, .int .i64 (p), .slice (A3') n3' c3', .int .i64 (q), .slice (none) 0 0, .int .i64 (z)] 30))
  have D1' := Lib.hid (hd'.alloc (Nat.le_refl _) (.cells #[.slice (A3) n3 c3, .int .i64 (p), .slice (A3') n3' c3', .int .i64 (q), .slice (none) 0 0, .int .i64 (z)] 30))
  have HA := Lib.hid ha
  have R1 := Lib.hid ((R0.out.below hb1 (by omega)).alloc (.cells #[.slice (A3) n3 c3, .int .i64 (p), .slice (A3') n3' c3', .int .i64 (q), .slice (none) 0 0, .int .i64 (z)] 30))
  have V1 := Lib.hid (Box.new w1 30 [.slice (A3) n3 c3, .int .i64 (p), .slice (A3') n3' c3', .int .i64 (q), .slice (none) 0 0, .int .i64 (z)])
  have E1 := Lib.hid ((below_step hb1 E0.out (by omega)).alloc (by omega) (.cells #[.slice (A3) n3 c3, .int .i64 (p), .slice (A3') n3' c3', .int .i64 (q), .slice (none) 0 0, .int .i64 (z)] 30))
  have s2 : (w1.alloc (.cells #[.slice (A3) n3 c3, .int .i64 (p), .slice (A3') n3' c3', .int .i64 (q), .slice (none) 0 0, .int .i64 (z)] 30)).heap.size = w1.heap.size + 1 := by simp
  have X1 := Lib.hid (X0.out.below hb1 (by omega))
  clear hb1 hd hd' ha H1 H2 R0 E0 X0
  have x0 := (X1.out.2 0 _ rfl).1; have x1 := (X1.out.2 1 _ rfl).1; have x2 := (X1.out.2 2 _ rfl).1; have x3 := (X1.out.2 3 _ rfl).1
  go_wp2_with fail
  clear x0 x1 x2 x3
  generalize w1.alloc (.cells #[.slice (A3) n3 c3, .int .i64 (p), .slice (A3') n3' c3', .int .i64 (q), .slice (none) 0 0, .int .i64 (z)] 30) = w2 at *
  refine (sValidWriter0_any D1.out D1'.out (Ints.nil w2 0 0 0 none).1 (by omega) (by omega) (by omega)).mono ?_
  rintro e w3 ⟨rfl, hb3⟩
  have s3 := hb3.size
  have D3 := Lib.hid (D1.out.below hb3 (by omega))
  have D3' := Lib.hid (D1'.out.below hb3 (by omega))
  have R3 := Lib.hid (R1.out.below hb3 (by omega))
  have V3 := Lib.hid (V1.out.below hb3 (by omega))
  have E3 := Lib.hid (below_step hb3 E1.out (by omega))
  clear hb3 D1 D1' R1 V1 E1
  have r0 := (R3.out.2 0 _ rfl).1; have r1 := (R3.out.2 1 _ rfl).1; have r2 := (R3.out.2 2 _ rfl).1; have r3 := (R3.out.2 3 _ rfl).1; have r4 := (R3.out.2 4 _ rfl).1; have r5 := (R3.out.2 5 _ rfl).1
  have g0 := (R3.out.2 0 _ rfl).2; have g1 := (R3.out.2 1 _ rfl).2; have g2 := (R3.out.2 2 _ rfl).2; have g3 := (R3.out.2 3 _ rfl).2; have g4 := (R3.out.2 4 _ rfl).2; have g5 := (R3.out.2 5 _ rfl).2
  have x0 := (V3.out.2 0 _ rfl).1; have x1 := (V3.out.2 1 _ rfl).1; have x2 := (V3.out.2 2 _ rfl).1; have x3 := (V3.out.2 3 _ rfl).1; have x4 := (V3.out.2 4 _ rfl).1; have x5 := (V3.out.2 5 _ rfl).1
  cases hv : validW D p S q [] z
  · have HO : Hid (newWOut D p S q z = (.zero, false)) := by show _ = _; simp [newWOut, hv]
    have HV := Lib.hid hv
    clear hv
    go_wp2
    refine bodyPost_ret (v := .tuple #[.agg #[.slice none 0 0, .int .i64 0, .slice none 0 0, .int .i64 0, .slice none 0 0, .int .i64 0], .bool false]) (by simp [results, Tryd.results133, go_sem, r0, r1, r2, r3, r4, r5, g0, g1, g2, g3, g4, g5]) rfl ?_
    refine .inl ⟨HV.out, rfl, ?_⟩
    (repeat (with_reducible refine below_set ?_ (by omega) _))
    exact E3.out
  · have HO : Hid (newWOut D p S q z = (⟨D, p, S, q, [], z⟩, true)) := by show _ = _; simp [newWOut, hv]
    obtain ⟨hvd, hz, _, _⟩ := validW_iff.1 hv
    have HV := Lib.hid hv
    clear hv hvd
    go_wp2
    refine bodyPost_ret (v := .tuple #[.agg #[.slice (A3) n3 c3, .int .i64 (p), .slice (A3') n3' c3', .int .i64 (q), .slice (none) 0 0, .int .i64 (z)], .bool true]) (by simp [results, Tryd.results133, go_sem, r0, r1, r2, r3, r4, r5, g0, g1, g2, g3, g4, g5]) rfl ?_
    refine .inr ⟨HV.out, _, _, _, _, _, _, rfl, hc3, hc3', ?_, ?_, ?_⟩
    · (repeat (with_reducible refine below_set ?_ (by omega) _))
      exact E3.out
    · simp only [World.size_setCell]
      refine Ints.more (lo := w0.heap.size) (hi := w1.heap.size) ?_ (by omega) (by omega)
      (repeat (with_reducible refine Ints.set_ ?_ (by omega) _))
      exact D3.out
    · simp only [World.size_setCell]
      refine Ints.more (lo := w0.heap.size) (hi := w1.heap.size) ?_ (by omega) (by omega)
      (repeat (with_reducible refine Ints.set_ ?_ (by omega) _))
      exact D3'.out
/-- A writer, drawn: its device lies ahead of its row. -/
def RdrDraw (K g P : Nat) (w : World) (e : Ending) (w' : World) : Prop :=
  ∃ A n c A' n' c' A2 n2 c2 D S R p q z M, e = .returned (.agg #[.slice (A) n c, .int .i64 (p), .slice (A') n' c', .int .i64 (q), .slice (A2) n2 c2, .int .i64 (z)]) ∧ (n ≤ c ∧ n' ≤ c') ∧ (n ≤ 61 ∧ n' ≤ 7 ∧ n2 ≤ K) ∧ (-1 ≤ p ∧ p ≤ (K : Int)) ∧ (-1 ≤ q ∧ q ≤ 1001) ∧ (0 ≤ z ∧ z ≤ 17) ∧
    w.heap.size ≤ M ∧ M ≤ w'.heap.size ∧ Ints w' w.heap.size M A n D ∧ Ints w' w.heap.size M A' n' S ∧ RowI w' M w'.heap.size A2 n2 c2 R ∧ Ch w' g P ∧ Turn w.heap.size g w w'
theorem lit2W (w : World) (x y : Int) (h : okInt x) (h' : okInt y) : Ints (w.alloc (.cells #[.int .i64 x, .int .i64 y] 3)) w.heap.size (w.heap.size + 1) (some ⟨w.heap.size, 0, none⟩) 2 [x, y] :=
  ⟨rfl, by omega, (fun z hz => by simp at hz; rcases hz with rfl | rfl <;> assumption), fun _ => ⟨w.heap.size, 0, rfl, Nat.le_refl _, Nat.lt_succ_self _, fun j z hz => by
    rw [Nat.zero_add]
    exact (Box.new w _ [.int .i64 x, .int .i64 y]).2 j (.int .i64 z) (by
      rcases j with _ | _ | j
      · simp at hz ⊢; exact hz
      · simp at hz ⊢; exact hz
      · simp at hz)⟩⟩
set_option maxHeartbeats 8000000 in
theorem goodWriterOf_any {g P : Nat} {w : World} (h : Ch w g P) (hP : P ≤ 500000) : Calls Tryd.prog 111 #[.pointer (some ⟨g, 0, none⟩)] w (RdrDraw 60 g (P + 300) w) := by
  have hg := h.lt
  have HCH := Lib.hid (Ch.alloc h (.cells #[.slice none 0 0, .int .i64 0, .slice none 0 0, .int .i64 0, .slice none 0 0, .int .i64 0] 30))
  have R0 := Lib.hid (Box.new w 30 [.slice none 0 0, .int .i64 0, .slice none 0 0, .int .i64 0, .slice none 0 0, .int .i64 0])
  have T0 : Hid (Turn w.heap.size g w (w.alloc (.cells #[.slice none 0 0, .int .i64 0, .slice none 0 0, .int .i64 0, .slice none 0 0, .int .i64 0] 30))) := Turn.of_below (Below.alloc (Below.refl _ _) (Nat.le_refl _) _) (Nat.le_refl _)
  have s0 : w.heap.size + 1 ≤ (w.alloc (.cells #[.slice none 0 0, .int .i64 0, .slice none 0 0, .int .i64 0, .slice none 0 0, .int .i64 0] 30)).heap.size := by simp
  clear h
  go_enter Tryd.func111, Tryd.ntmps111
  go_wp2_with fail
  generalize w.alloc (.cells #[.slice none 0 0, .int .i64 0, .slice none 0 0, .int .i64 0, .slice none 0 0, .int .i64 0] 30) = w0 at *
  refine (goodDevice_q HCH.out (by omega)).mono ?_
  rintro e w1 ⟨A, n, c, A', n', c', D, S, p, q, rfl, hn, hn', hn1, hn2, hD, hS, hp, hq, hown, hown', _, hch, ht⟩
  obtain ⟨A1, c1, e1, hc, hI⟩ := hown.ints (fun x hx => by have := hD x hx; unfold okInt; omega)
  injection e1 with e1 _ e3
  subst e1 e3
  obtain ⟨A1, c1, e1, hc', hI'⟩ := hown'.ints (fun x hx => by have := hS x hx; unfold okInt; omega)
  injection e1 with e1 _ e3
  subst e1 e3
  have s1 := ht.size
  have D1 := Lib.hid hI; have S1 := Lib.hid hI'; have HC1 := Lib.hid hch
  have R1 := Lib.hid (R0.out.turn ht (by omega) (by omega))
  have T1 := Lib.hid (T0.out.trans (ht.mono (by omega)))
  clear hown hown' hch ht hD hS hI hI' HCH R0 T0 hn hn'
  go_wp2_with fail
  refine (one_lit [4, 3, 5, 8, 1, 16] HC1.out (by omega) rfl rfl rfl (by decide) (by decide) (by decide)).mono ?_
  rintro e w2 ⟨z, hz, rfl, hch, ht⟩
  have hz2 : 1 ≤ z ∧ z ≤ 16 := by simp at hz; omega
  obtain ⟨zn, rfl⟩ := Int.eq_ofNat_of_zero_le (show (0 : Int) ≤ z by omega)
  have s2 := ht.size
  have D2 := Lib.hid (D1.out.turn ht (Nat.le_refl _) (by omega)); have S2 := Lib.hid (S1.out.turn ht (Nat.le_refl _) (by omega)); have HC2 := Lib.hid hch
  have R2 := Lib.hid (R1.out.turn ht (by omega) (by omega))
  have T2 := Lib.hid (T1.out.trans (ht.mono (by omega)))
  clear hz hch ht D1 S1 HC1 R1 T1
  go_wp2_with fail
  refine (SNewWriter_own (z := (zn : Int)) D2.out S2.out (by omega) (by omega) (by omega) (by omega) (by unfold okInt; omega) (by unfold okInt; omega)).mono ?_
  rintro e w3 (⟨hv, rfl, hb⟩ | ⟨hv, A3, n3, c3, A3', n3', c3', rfl, hc3, hc3', hb, hd, hd'⟩)
  · have HC3 := Lib.hid (HC2.out.below hb (by omega))
    have R3 := Lib.hid (R2.out.below hb (by omega))
    have T3 := Lib.hid (T2.out.step hb (by omega))
    have s3 := hb.size
    clear hb HC2 R2 T2 D2 S2
    have C4 := Lib.hid (Ch.alloc HC3.out (.cells #[.slice none 0 0, .int .i64 0, .slice none 0 0, .int .i64 0, .slice none 0 0, .int .i64 0] 30)); have R4 := Lib.hid (R3.out.alloc (.cells #[.slice none 0 0, .int .i64 0, .slice none 0 0, .int .i64 0, .slice none 0 0, .int .i64 0] 30))
    have T4 := Lib.hid (T3.out.step (Below.alloc (Below.refl _ w3) (Nat.le_refl _) (.cells #[.slice none 0 0, .int .i64 0, .slice none 0 0, .int .i64 0, .slice none 0 0, .int .i64 0] 30)) (by omega))
    have s4 : w3.heap.size + 1 ≤ (w3.alloc (.cells #[.slice none 0 0, .int .i64 0, .slice none 0 0, .int .i64 0, .slice none 0 0, .int .i64 0] 30)).heap.size := by simp
    clear HC3 R3 T3
    go_upto_region 2 with (fail)
    generalize w3.alloc (.cells #[.slice none 0 0, .int .i64 0, .slice none 0 0, .int .i64 0, .slice none 0 0, .int .i64 0] 30) = w4 at *
    have r0 := (R4.out.2 0 _ rfl).1; have r1 := (R4.out.2 1 _ rfl).1; have r2 := (R4.out.2 2 _ rfl).1; have r3 := (R4.out.2 3 _ rfl).1; have r4 := (R4.out.2 4 _ rfl).1; have r5 := (R4.out.2 5 _ rfl).1
    have f0 := (R4.out.2 0 _ rfl).2; have f1 := (R4.out.2 1 _ rfl).2; have f2 := (R4.out.2 2 _ rfl).2; have f3 := (R4.out.2 3 _ rfl).2; have f4 := (R4.out.2 4 _ rfl).2; have f5 := (R4.out.2 5 _ rfl).2
    go_wp2
    refine bodyPost_ret (v := .agg #[.slice none 0 0, .int .i64 0, .slice none 0 0, .int .i64 0, .slice none 0 0, .int .i64 1]) (by simp [results, Tryd.results111, go_sem, r0, r1, r2, r3, r4, r5, f0, f1, f2, f3, f4, f5]) rfl ?_
    refine ⟨none, 0, 0, none, 0, 0, none, 0, 0, [], [], [], 0, 0, 1, w.heap.size, rfl, ⟨Nat.le_refl _, Nat.le_refl _⟩, ⟨by omega, by omega, by omega⟩, by omega, by omega, by omega, Nat.le_refl _, ?_, (Ints.nil _ _ _ 0 _).1, (Ints.nil _ _ _ 0 _).1, RowI.nil _ _ _, ?_, ?_⟩
    · simp; omega
    · refine Ch.more (Ch.below C4.out (B := w.heap.size) ?_ hg) (by omega)
      (repeat (with_reducible refine below_set ?_ (by omega) _))
      exact Below.refl _ _
    · refine T4.out.step (C := w.heap.size) ?_ (Nat.le_refl _)
      (repeat (with_reducible refine below_set ?_ (by omega) _))
      exact Below.refl _ _
  · obtain ⟨hvd, hz3, _, _⟩ := validW_iff.1 hv
    have hD60b : D.length ≤ 60 := bytesB_le (validD_iff.1 hvd).1
    obtain ⟨hbD, _, _, hp3, hq3⟩ := validD_iff.1 hvd
    have hD60 := bytesB_le hbD
    obtain ⟨a, rfl⟩ := Int.eq_ofNat_of_zero_le hq.1
    have s3 := hb.size
    have X4 := Lib.hid (Box.new w3 30 [.slice (A3) n3 c3, .int .i64 (p), .slice (A3') n3' c3', .int .i64 ((a : Int)), .slice (none) 0 0, .int .i64 ((zn : Int))])
    have D4 := Lib.hid (hd.alloc (Nat.le_refl _) (.cells #[.slice (A3) n3 c3, .int .i64 (p), .slice (A3') n3' c3', .int .i64 ((a : Int)), .slice (none) 0 0, .int .i64 ((zn : Int))] 30)); have S4 := Lib.hid (hd'.alloc (Nat.le_refl _) (.cells #[.slice (A3) n3 c3, .int .i64 (p), .slice (A3') n3' c3', .int .i64 ((a : Int)), .slice (none) 0 0, .int .i64 ((zn : Int))] 30))
    have HC4 := Lib.hid (Ch.alloc (HC2.out.below hb (by omega)) (.cells #[.slice (A3) n3 c3, .int .i64 (p), .slice (A3') n3' c3', .int .i64 ((a : Int)), .slice (none) 0 0, .int .i64 ((zn : Int))] 30))
    have R4 := Lib.hid ((R2.out.below hb (by omega)).alloc (.cells #[.slice (A3) n3 c3, .int .i64 (p), .slice (A3') n3' c3', .int .i64 ((a : Int)), .slice (none) 0 0, .int .i64 ((zn : Int))] 30))
    have T4 := Lib.hid ((T2.out.step hb (by omega)).step (Below.alloc (Below.refl _ w3) (Nat.le_refl _) (.cells #[.slice (A3) n3 c3, .int .i64 (p), .slice (A3') n3' c3', .int .i64 ((a : Int)), .slice (none) 0 0, .int .i64 ((zn : Int))] 30)) (by omega))
    have s4 : w3.heap.size + 1 ≤ (w3.alloc (.cells #[.slice (A3) n3 c3, .int .i64 (p), .slice (A3') n3' c3', .int .i64 ((a : Int)), .slice (none) 0 0, .int .i64 ((zn : Int))] 30)).heap.size := by simp
    have HV4 := Lib.hid hvd
    have hn3 : n3 ≤ 61 := by have := hd.len; omega
    have hn3' : n3' ≤ 7 := by have h1 := hd'.len; have h2 := S2.out.len; omega
    clear hb hd hd' hv hvd hbD HC2 R2 T2 D2 S2
    go_wp2_with fail
    generalize w3.alloc (.cells #[.slice (A3) n3 c3, .int .i64 (p), .slice (A3') n3' c3', .int .i64 ((a : Int)), .slice (none) 0 0, .int .i64 ((zn : Int))] 30) = w4 at *
    refine (pick_any HC4.out (by omega) (by decide)).mono ?_
    rintro e w5 ⟨r, rfl, ⟨hr0, hr1, _⟩, hch, ht⟩
    have hr2 := hr1 (by decide)
    obtain ⟨N, rfl⟩ := Int.eq_ofNat_of_zero_le hr0
    have s5 := ht.size
    have X5 := Lib.hid (X4.out.turn ht (by omega) (by omega)); have D5 := Lib.hid (D4.out.turn ht (by omega) (by omega)); have S5 := Lib.hid (S4.out.turn ht (by omega) (by omega))
    have HC5 := Lib.hid hch; have R5 := Lib.hid (R4.out.turn ht (by omega) (by omega)); have T5 := Lib.hid (T4.out.trans (ht.mono (by omega)))
    clear hr0 hr1 hch ht X4 D4 S4 HC4 R4 T4
    go_wp2
    go_loopw [5] (fun i wr => ∃ (j a' : Nat) (p' : Int) (R' D' : List Int) (A1 : Option Addr) (n1 c1 : Nat) (A5 : Option Addr) (n5 c5 M1 C1 M5 : Nat), i = .int .i64 ((j : Nat) : Int) ∧ j ≤ 2 ∧ a' + 42 * j ≤ 90 ∧ R'.length ≤ zn ∧ n1 ≤ c1 ∧ C1 ≤ M5 ∧ w3.heap.size + 1 ≤ M5 ∧ M5 ≤ wr.heap.size ∧ ((M1 = w2.heap.size ∧ C1 = w3.heap.size) ∨ w3.heap.size + 1 ≤ M1) ∧ Hid (Box wr w3.heap.size [.slice (A1) n1 c1, .int .i64 (p'), .slice (A3') n3' c3', .int .i64 ((a' : Int)), .slice (A5) n5 c5, .int .i64 ((zn : Int))]) ∧ Hid (Box wr w.heap.size [.slice none 0 0, .int .i64 0, .slice none 0 0, .int .i64 0, .slice none 0 0, .int .i64 0]) ∧ Hid (Ints wr M1 C1 A1 n1 D') ∧ Hid (Ints wr w2.heap.size w3.heap.size A3' n3' S) ∧ Hid (RowI wr M5 wr.heap.size A5 n5 c5 R') ∧ Hid (validD D' p' S (a' : Int) = true) ∧ Hid (allB R' 0 255 = true) ∧ Hid (Ch wr g (P + 210 + 4 * (2 - j))) ∧ Hid (Turn w.heap.size g w wr)) (fun i _ => (intOf i).toNat)
    case atStart => exact ⟨N, a, p, [], D, A3, n3, c3, none, 0, 0, w2.heap.size, w3.heap.size, w3.heap.size + 1, rfl, by omega, by omega, by simp, hc3, by omega, Nat.le_refl _, by omega, .inl ⟨rfl, rfl⟩, X5, R5, D5, S5, RowI.nil _ _ _, HV4, by show allB [] 0 255 = true; rfl, HC5.out.more (by omega), T5⟩
    case round =>
      clear X5 R5 D5 S5 HV4 HC5 T5
      obtain ⟨j, a', p', R', D', A1, n1, c1, A5, n5, c5, M1, C1, M5, rfl, hj, ha', hR', hc1, hC1, hM53, hM5w, horM, X6, R6, D6, S6, B6, V6, A6, C6, T6⟩ := hrel
      have hn5 : n5 ≤ R'.length ∧ R'.length ≤ n5 := by have := B6.out.len; omega
      have hn1 : n1 ≤ 60 := by have h1 := D6.out.len; have h2 := bytesB_le (validD_iff.1 V6.out).1; omega
      have hC3 : g < w3.heap.size := by omega
      have x0 := (X6.out.2 0 _ rfl).1; have x1 := (X6.out.2 1 _ rfl).1; have x2 := (X6.out.2 2 _ rfl).1; have x3 := (X6.out.2 3 _ rfl).1; have x4 := (X6.out.2 4 _ rfl).1; have x5 := (X6.out.2 5 _ rfl).1
      have f0 := (X6.out.2 0 _ rfl).2; have f1 := (X6.out.2 1 _ rfl).2; have f2 := (X6.out.2 2 _ rfl).2; have f3 := (X6.out.2 3 _ rfl).2; have f4 := (X6.out.2 4 _ rfl).2; have f5 := (X6.out.2 5 _ rfl).2
      by_cases hlt : (0 : Int) < (j : Int)
      · have hgM : g < M1 ∨ C1 ≤ g := by rcases horM with ⟨rfl, _⟩ | h <;> omega
        have HTK : Hid (TkOk S zn (a' + 40) 2 D' p' a' R') := Lib.hid (show TkOk S zn (a' + 40) 2 D' p' a' R' from ⟨V6.out, A6.out, by omega, by omega, .inl (by omega)⟩)
        have C6d : Hid (Ch wr.drew g (P + 210 + 4 * (2 - j))) := C6.out
        go_wp2_with fail
        go_region_law (first | (go_simp; go_at_call 135; (with_reducible refine (aByte_any (w := wr.drew) C6d.out (by omega)).mono ?_); rintro e w7 ⟨v1, hv1, rfl, hch, ht⟩; have s7 := ht.size; (try rw [World.size_drew] at s7); have X7 := Lib.hid (X6.out.drew.turn ht (by first | omega | (simp; omega) | (simp; done)) (by first | omega | (simp; omega) | (simp; done))); have R7 := Lib.hid (R6.out.drew.turn ht (by first | omega | (simp; omega) | (simp; done)) (by first | omega | (simp; omega) | (simp; done))); have D7 := Lib.hid (D6.out.drew.turn ht (by first | omega | (simp; omega) | (simp; done)) (by first | omega | (simp; omega) | (simp; done))); have S7 := Lib.hid (S6.out.drew.turn ht (by first | omega | (simp; omega) | (simp; done)) (by first | omega | (simp; omega) | (simp; done))); have B7 := Lib.hid (B6.out.drew.turn ht (by first | omega | (simp; omega) | (simp; done)) (by first | omega | (simp; omega) | (simp; done))); have T7 := Lib.hid (T6.out.drew.trans (ht.mono (by first | omega | (simp; omega) | (simp; done)))); have C7 := Lib.hid hch; clear hch ht; clear x0 x1 x2 x3 x4 x5; clear f0 f1 f2 f3 f4 f5; have x0 := (X7.out.2 0 _ rfl).1; have x1 := (X7.out.2 1 _ rfl).1; have x2 := (X7.out.2 2 _ rfl).1; have x3 := (X7.out.2 3 _ rfl).1; have x4 := (X7.out.2 4 _ rfl).1; have x5 := (X7.out.2 5 _ rfl).1; have f0 := (X7.out.2 0 _ rfl).2; have f1 := (X7.out.2 1 _ rfl).2; have f2 := (X7.out.2 2 _ rfl).2; have f3 := (X7.out.2 3 _ rfl).2; have f4 := (X7.out.2 4 _ rfl).2; have f5 := (X7.out.2 5 _ rfl).2) | (go_simp; go_at_call 135; (with_reducible refine (aByte_any (w := w7) C7.out (by omega)).mono ?_); rintro e w8 ⟨v2, hv2, rfl, hch, ht⟩; have s8 := ht.size; (try rw [World.size_drew] at s8); have X8 := Lib.hid (X7.out.turn ht (by first | omega | (simp; omega) | (simp; done)) (by first | omega | (simp; omega) | (simp; done))); have R8 := Lib.hid (R7.out.turn ht (by first | omega | (simp; omega) | (simp; done)) (by first | omega | (simp; omega) | (simp; done))); have D8 := Lib.hid (D7.out.turn ht (by first | omega | (simp; omega) | (simp; done)) (by first | omega | (simp; omega) | (simp; done))); have S8 := Lib.hid (S7.out.turn ht (by first | omega | (simp; omega) | (simp; done)) (by first | omega | (simp; omega) | (simp; done))); have B8 := Lib.hid (B7.out.turn ht (by first | omega | (simp; omega) | (simp; done)) (by first | omega | (simp; omega) | (simp; done))); have T8 := Lib.hid (T7.out.trans (ht.mono (by first | omega | (simp; omega) | (simp; done)))); have C8 := Lib.hid hch; clear hch ht; clear x0 x1 x2 x3 x4 x5; clear f0 f1 f2 f3 f4 f5; have x0 := (X8.out.2 0 _ rfl).1; have x1 := (X8.out.2 1 _ rfl).1; have x2 := (X8.out.2 2 _ rfl).1; have x3 := (X8.out.2 3 _ rfl).1; have x4 := (X8.out.2 4 _ rfl).1; have x5 := (X8.out.2 5 _ rfl).1; have f0 := (X8.out.2 0 _ rfl).2; have f1 := (X8.out.2 1 _ rfl).2; have f2 := (X8.out.2 2 _ rfl).2; have f3 := (X8.out.2 3 _ rfl).2; have f4 := (X8.out.2 4 _ rfl).2; have f5 := (X8.out.2 5 _ rfl).2; have xL := Lib.hid (X8.out.alloc (.cells #[.int .i64 v1, .int .i64 v2] 3)); have xl0 := (xL.out.2 0 _ rfl).1; have xl1 := (xL.out.2 1 _ rfl).1; have xl2 := (xL.out.2 2 _ rfl).1; have xl3 := (xL.out.2 3 _ rfl).1; have xl4 := (xL.out.2 4 _ rfl).1; have xl5 := (xL.out.2 5 _ rfl).1) | (go_simp; go_at_call 51; (with_reducible refine (sWriteBytes_row (q0 := a') (zn := zn) (b := a' + 40) (L := [v1, v2]) (D8.out.alloc (by omega) (.cells #[.int .i64 v1, .int .i64 v2] 3)) (S8.out.alloc (by omega) (.cells #[.int .i64 v1, .int .i64 v2] 3)) (B8.out.alloc (by omega) (.cells #[.int .i64 v1, .int .i64 v2] 3)) (lit2W w8 v1 v2 (by unfold okInt; omega) (by unfold okInt; omega)) (by simp; omega) (by simp; omega) (by simp; omega) (by simp) (Apart.of_le D8.out B8.out.ints hC1).symm hC1 (by simp; omega) hc1 hc3' (Nat.le_refl _) (by omega) (by omega) (by omega) HTK.out (by simp [allB, inB]; omega) (by omega)).mono ?_); rintro e w9 ⟨A7, n7, c7, A8, n8, c8, M6, C6', M7, C7', rfl, ⟨hc7, hc8⟩, hb, hd, hrow, ⟨hM67, hC7, hM7w⟩, horD, horR⟩; have hb9 : Below w8.heap.size w8 w9 := below_step hb (Below.alloc (Below.refl _ _) (Nat.le_refl _) (.cells #[.int .i64 v1, .int .i64 v2] 3)) (by simp); have s9 := hb9.size; have HB9 := Lib.hid hb9; have D9 := Lib.hid hd; have B9 := Lib.hid hrow; have X9 := Lib.hid (X8.out.below hb9 (by omega)); clear hb hb9 hd hrow; clear x0 x1 x2 x3 x4 x5; clear f0 f1 f2 f3 f4 f5; have x0 := (X9.out.2 0 _ rfl).1; have x1 := (X9.out.2 1 _ rfl).1; have x2 := (X9.out.2 2 _ rfl).1; have x3 := (X9.out.2 3 _ rfl).1; have x4 := (X9.out.2 4 _ rfl).1; have x5 := (X9.out.2 5 _ rfl).1; have f0 := (X9.out.2 0 _ rfl).2; have f1 := (X9.out.2 1 _ rfl).2; have f2 := (X9.out.2 2 _ rfl).2; have f3 := (X9.out.2 3 _ rfl).2; have f4 := (X9.out.2 4 _ rfl).2; have f5 := (X9.out.2 5 _ rfl).2))
        all_goals
          obtain ⟨k1, k2, k3, k4, _, _, _⟩ := tkGo_ok (S := S) (z := zn) (b := a' + 40) (by omega) (by omega) [v1, v2] D' p' a' R' ⟨V6.out, A6.out, by omega, by simp; omega, .inl (by simp; omega)⟩ (by simp; omega) (by simp [allB, inB]; omega)
          generalize (tkGo S zn [v1, v2] D' p' a' R').1 = T at *
          generalize (tkGo S zn [v1, v2] D' p' a' R').2 = TN at *
          simp only [World.size_alloc] at horD horR
          have hM6 : (M6 = w2.heap.size ∧ C6' = w3.heap.size) ∨ w3.heap.size + 1 ≤ M6 := by
            rcases horD with ⟨h1, h2, _⟩ | h
            · rw [h1, h2]; exact horM
            · exact .inr (by omega)
          have hM7 : w3.heap.size + 1 ≤ M7 := by rcases horR with ⟨rfl, rfl⟩ | h <;> omega
          have hf6 : (w3.heap.size < M6 ∨ C6' ≤ w3.heap.size) ∧ (w.heap.size < M6 ∨ C6' ≤ w.heap.size) := by rcases hM6 with ⟨rfl, rfl⟩ | h <;> omega
          have hn7 : T.r.length ≤ zn := k3
          have K1 := Lib.hid k1; have K2 := Lib.hid k2
          clear k1 k2 horD horR
          go_wp2
          go_roundw
          case rel =>
            refine ⟨j - 1, T.q, T.p, T.r, T.d, A7, n7, c7, A8, n8, c8, M6, C6', M7, by go_num, by omega, by omega, hn7, hc7, hM67, hM7, ?_, hM6, ?_, ?_, ?_, ?_, ?_, K1, K2, ?_, ?_⟩
            · simp only [World.size_setCell, World.size_drew]; omega
            · show Box _ _ _
              have hx := (((((X9.out.put (i := 0) (by simp) (.slice A7 n7 c7)).put (i := 1) (by simp) (.int .i64 T.p)).put (i := 2) (by simp) (.slice A3' n3' c3')).put (i := 3) (by simp) (.int .i64 (T.q : Int))).put (i := 4) (by simp) (.slice A8 n8 c8)).put (i := 5) (by simp) (.int .i64 (zn : Int))
              simpa using hx
            · show Box _ _ _
              (repeat (with_reducible refine Box.set_ ?_ (by omega) _))
              exact (R8.out.below HB9.out (by omega))
            · show Ints _ _ _ _ _ _
              (repeat (with_reducible refine Ints.set_ ?_ (by omega) _))
              exact D9.out
            · show Ints _ _ _ _ _ _
              (repeat (with_reducible refine Ints.set_ ?_ (by omega) _))
              exact S8.out.below HB9.out (by omega)
            · show RowI _ _ _ _ _ _ _
              simp only [World.size_setCell, World.size_drew]
              refine RowI.more (lo := M7) (hi := w9.heap.size) ?_ (Nat.le_refl _) (Nat.le_refl _)
              (repeat (with_reducible refine RowI.set_ ?_ (by omega) _))
              exact B9.out.more (Nat.le_refl _) hC7
            · refine Ch.more (Ch.below (C8.out.below HB9.out (by omega)) (B := w.heap.size) ?_ hg) (by omega)
              (repeat (with_reducible refine below_set ?_ (by omega) _))
              exact Below.refl _ _
            · refine (T8.out.step HB9.out (by omega)).step (C := w.heap.size) ?_ (Nat.le_refl _)
              (repeat (with_reducible refine below_set ?_ (by omega) _))
              exact Below.refl _ _
          case measure => simp [intOf]; omega
      · have r0 := (R6.out.2 0 _ rfl).1; have r1 := (R6.out.2 1 _ rfl).1; have r2 := (R6.out.2 2 _ rfl).1; have r3 := (R6.out.2 3 _ rfl).1; have r4 := (R6.out.2 4 _ rfl).1; have r5 := (R6.out.2 5 _ rfl).1
        have y0 := (R6.out.2 0 _ rfl).2; have y1 := (R6.out.2 1 _ rfl).2; have y2 := (R6.out.2 2 _ rfl).2; have y3 := (R6.out.2 3 _ rfl).2; have y4 := (R6.out.2 4 _ rfl).2; have y5 := (R6.out.2 5 _ rfl).2
        clear f0 f1 f2 f3 f4 f5
        go_wp2
        refine bodyPost_ret (v := .agg #[.slice (A1) n1 c1, .int .i64 (p'), .slice (A3') n3' c3', .int .i64 ((a' : Int)), .slice (A5) n5 c5, .int .i64 ((zn : Int))]) (by simp [results, Tryd.results111, go_sem, r0, r1, r2, r3, r4, r5, y0, y1, y2, y3, y4, y5]) rfl ?_
        obtain ⟨_, _, _, hp6, hq6⟩ := validD_iff.1 V6.out
        have hf1 : w.heap.size < M1 ∨ C1 ≤ w.heap.size := by rcases horM with ⟨rfl, rfl⟩ | h <;> omega
        have hlo : w.heap.size ≤ M1 := by rcases horM with ⟨rfl, _⟩ | h <;> omega
        refine ⟨A1, n1, c1, A3', n3', c3', A5, n5, c5, D', S, R', p', (a' : Int), (zn : Int), M5, rfl, ⟨hc1, hc3'⟩, ⟨by omega, by omega, by omega⟩, by omega, by omega, by omega, by omega, ?_, ?_, ?_, ?_, ?_, ?_⟩
        · simp only [World.size_setCell]; omega
        · refine Ints.more (lo := M1) (hi := C1) ?_ (by omega) (by omega)
          (repeat (with_reducible refine Ints.set_ ?_ (by omega) _))
          exact D6.out
        · refine Ints.more (lo := w2.heap.size) (hi := w3.heap.size) ?_ (by omega) (by omega)
          (repeat (with_reducible refine Ints.set_ ?_ (by omega) _))
          exact S6.out
        · simp only [World.size_setCell]
          refine RowI.more (lo := M5) (hi := wr.heap.size) ?_ (Nat.le_refl _) (Nat.le_refl _)
          (repeat (with_reducible refine RowI.set_ ?_ (by omega) _))
          exact B6.out
        · refine Ch.more (Ch.below C6.out (B := w.heap.size) ?_ hg) (by omega)
          (repeat (with_reducible refine below_set ?_ (by omega) _))
          exact Below.refl _ _
        · refine T6.out.step (C := w.heap.size) ?_ (Nat.le_refl _)
          (repeat (with_reducible refine below_set ?_ (by omega) _))
          exact Below.refl _ _
theorem RowI.put_ {w : World} {lo hi n c b o : Nat} {A : Option Addr} {xs : List Int} (h : RowI w lo hi A n c xs) (hk : ∀ k, (Value.slice A n c).ownBlock = some k → k ≠ b) (u : Value) : RowI (w.setCell ⟨b, o, none⟩ u) lo hi A n c xs := by
  refine ⟨h.1, h.2.1, ?_⟩
  rcases h.2.2 with h0 | ⟨g, cur, e, h1, h2, h3, h4⟩
  · exact .inl h0
  · subst e
    exact .inr ⟨g, cur, rfl, h1, h2, (Below.heap_setCell w ⟨b, o, none⟩ u g (hk g rfl)).trans h3, h4⟩
set_option maxHeartbeats 16000000 in
theorem someWriter_any {g P : Nat} {w : World} (h : Ch w g P) (hP : P ≤ 400000) : Calls Tryd.prog 79 #[.pointer (some ⟨g, 0, none⟩)] w (RdrDraw 61 g (P + 400) w) := by
  have hg := h.lt
  have HCH := Lib.hid (Ch.alloc h (.cells #[.slice none 0 0, .int .i64 0, .slice none 0 0, .int .i64 0, .slice none 0 0, .int .i64 0] 30))
  have R0 := Lib.hid (Box.new w 30 [.slice none 0 0, .int .i64 0, .slice none 0 0, .int .i64 0, .slice none 0 0, .int .i64 0])
  have T0 : Hid (Turn w.heap.size g w (w.alloc (.cells #[.slice none 0 0, .int .i64 0, .slice none 0 0, .int .i64 0, .slice none 0 0, .int .i64 0] 30))) := Turn.of_below (Below.alloc (Below.refl _ _) (Nat.le_refl _) _) (Nat.le_refl _)
  have s0 : w.heap.size + 1 ≤ (w.alloc (.cells #[.slice none 0 0, .int .i64 0, .slice none 0 0, .int .i64 0, .slice none 0 0, .int .i64 0] 30)).heap.size := by simp
  clear h
  go_enter Tryd.func79, Tryd.ntmps79
  go_wp2_with fail
  generalize w.alloc (.cells #[.slice none 0 0, .int .i64 0, .slice none 0 0, .int .i64 0, .slice none 0 0, .int .i64 0] 30) = w0 at *
  refine (goodWriterOf_any HCH.out (by omega)).mono ?_
  rintro e w1 ⟨A, n, c, A', n', c', A2, n2, c2, D, S, R, p, q, z, M, rfl, ⟨hc, hc'⟩, ⟨hn, hn', hn2⟩, hp, hq, hz, hM0, hM1, hD, hS, hB, hch, ht⟩
  have s1 := ht.size
  have X2 := Lib.hid (Box.new w1 30 [.slice (A) n c, .int .i64 (p), .slice (A') n' c', .int .i64 (q), .slice (A2) n2 c2, .int .i64 (z)])
  have D2 := Lib.hid (hD.alloc hM1 (.cells #[.slice (A) n c, .int .i64 (p), .slice (A') n' c', .int .i64 (q), .slice (A2) n2 c2, .int .i64 (z)] 30)); have S2 := Lib.hid (hS.alloc hM1 (.cells #[.slice (A) n c, .int .i64 (p), .slice (A') n' c', .int .i64 (q), .slice (A2) n2 c2, .int .i64 (z)] 30)); have B2 := Lib.hid (hB.alloc (Nat.le_refl _) (.cells #[.slice (A) n c, .int .i64 (p), .slice (A') n' c', .int .i64 (q), .slice (A2) n2 c2, .int .i64 (z)] 30))
  have C2 := Lib.hid (Ch.alloc hch (.cells #[.slice (A) n c, .int .i64 (p), .slice (A') n' c', .int .i64 (q), .slice (A2) n2 c2, .int .i64 (z)] 30))
  have R2 := Lib.hid ((R0.out.turn ht (by omega) (by omega)).alloc (.cells #[.slice (A) n c, .int .i64 (p), .slice (A') n' c', .int .i64 (q), .slice (A2) n2 c2, .int .i64 (z)] 30))
  have T2 := Lib.hid ((T0.out.trans (ht.mono (by omega))).step (Below.alloc (Below.refl _ w1) (Nat.le_refl _) (.cells #[.slice (A) n c, .int .i64 (p), .slice (A') n' c', .int .i64 (q), .slice (A2) n2 c2, .int .i64 (z)] 30)) (by omega))
  have s2 : w1.heap.size + 1 ≤ (w1.alloc (.cells #[.slice (A) n c, .int .i64 (p), .slice (A') n' c', .int .i64 (q), .slice (A2) n2 c2, .int .i64 (z)] 30)).heap.size := by simp
  clear hD hS hB hch ht HCH R0 T0
  go_wp2_with fail
  generalize w1.alloc (.cells #[.slice (A) n c, .int .i64 (p), .slice (A') n' c', .int .i64 (q), .slice (A2) n2 c2, .int .i64 (z)] 30) = w2 at *
  refine (pick_any C2.out (by omega) (by decide)).mono ?_
  rintro e w3 ⟨t, rfl, _, hch, ht⟩
  have s3 := ht.size
  have X3 := Lib.hid (X2.out.turn ht (by omega) (by omega)); have D3 := Lib.hid (D2.out.turn ht (by omega) (by omega)); have S3 := Lib.hid (S2.out.turn ht (by omega) (by omega)); have B3 := Lib.hid (B2.out.turn ht (by omega) (by omega))
  have C3 := Lib.hid hch; have R3 := Lib.hid (R2.out.turn ht (by omega) (by omega)); have T3 := Lib.hid (T2.out.trans (ht.mono (by omega)))
  clear hch ht X2 D2 S2 B2 C2 R2 T2
  by_cases h0 : t = 0
  · subst h0
    go_wp2_with fail
    refine (one_lit [0, 17] C3.out (by omega) rfl rfl rfl (by decide) (by decide) (by decide)).mono ?_
    rintro e w4 ⟨y, hy, rfl, hch, ht⟩
    have hy1 : 0 ≤ y ∧ y ≤ 17 := by simp at hy; omega
    have s4 := ht.size
    have X4 := Lib.hid (X3.out.turn ht (by omega) (by omega)); have D4 := Lib.hid (D3.out.turn ht (by omega) (by omega)); have S4 := Lib.hid (S3.out.turn ht (by omega) (by omega)); have B4 := Lib.hid (B3.out.turn ht (by omega) (by omega)); have C4 := Lib.hid hch; have R4 := Lib.hid (R3.out.turn ht (by omega) (by omega)); have T4 := Lib.hid (T3.out.trans (ht.mono (by omega)))
    clear hy hch ht X3 D3 S3 B3 C3 R3 T3
    have zx := (X4.out.2 5 _ rfl).1; have zf := (X4.out.2 5 _ rfl).2
    go_upto_region 9 with (fail)
    have X5 : Hid (Box (w4.setCell ⟨w1.heap.size, 5, none⟩ (.int .i64 y)) w1.heap.size [.slice A n c, .int .i64 p, .slice A' n' c', .int .i64 q, .slice A2 n2 c2, .int .i64 y]) := by show Box _ _ _; have hx := X4.out.put (i := 5) (by simp) (.int .i64 y); simpa using hx
    have R5 := Lib.hid (R4.out.set_ (b' := w1.heap.size) (o := 5) (by omega) (.int .i64 y)); have D5 := Lib.hid (D4.out.set_ (b := w1.heap.size) (o := 5) (by omega) (.int .i64 y)); have S5 := Lib.hid (S4.out.set_ (b := w1.heap.size) (o := 5) (by omega) (.int .i64 y)); have B5 := Lib.hid (B4.out.set_ (b := w1.heap.size) (o := 5) (by omega) (.int .i64 y))
    have C5 : Hid (Ch (w4.setCell ⟨w1.heap.size, 5, none⟩ (.int .i64 y)) g _) := C4.out.below (B := w.heap.size) (by (repeat (with_reducible refine below_set ?_ (by omega) _)); exact Below.refl _ _) hg
    have T5 : Hid (Turn w.heap.size g w (w4.setCell ⟨w1.heap.size, 5, none⟩ (.int .i64 y))) := T4.out.step (C := w.heap.size) (by (repeat (with_reducible refine below_set ?_ (by omega) _)); exact Below.refl _ _) (Nat.le_refl _)
    have z5 : w4.heap.size ≤ (w4.setCell ⟨w1.heap.size, 5, none⟩ (.int .i64 y)).heap.size := by simp
    clear zx zf X4 R4 D4 S4 B4 C4 T4
    generalize (w4.setCell ⟨w1.heap.size, 5, none⟩ (.int .i64 y)) = w5 at *
    have rl := R5.out.lt
    have x0 := (X5.out.2 0 _ rfl).1; have r0 := (R5.out.2 0 _ rfl).1; have f0 := (R5.out.2 0 _ rfl).2
    have x1 := (X5.out.2 1 _ rfl).1; have r1 := (R5.out.2 1 _ rfl).1; have f1 := (R5.out.2 1 _ rfl).2
    have x2 := (X5.out.2 2 _ rfl).1; have r2 := (R5.out.2 2 _ rfl).1; have f2 := (R5.out.2 2 _ rfl).2
    have x3 := (X5.out.2 3 _ rfl).1; have r3 := (R5.out.2 3 _ rfl).1; have f3 := (R5.out.2 3 _ rfl).2
    have x4 := (X5.out.2 4 _ rfl).1; have r4 := (R5.out.2 4 _ rfl).1; have f4 := (R5.out.2 4 _ rfl).2
    have x5 := (X5.out.2 5 _ rfl).1; have r5 := (R5.out.2 5 _ rfl).1; have f5 := (R5.out.2 5 _ rfl).2
    go_wp2
    refine bodyPost_ret (v := .agg #[.slice A n c, .int .i64 p, .slice A' n' c', .int .i64 q, .slice A2 n2 c2, .int .i64 y]) (by simp [results, Tryd.results79, go_sem, x0, r0, f0, x1, r1, f1, x2, r2, f2, x3, r3, f3, x4, r4, f4, x5, r5, f5]) rfl ?_
    refine ⟨A, n, c, A', n', c', A2, n2, c2, D, S, R, p, q, y, M, rfl, ⟨hc, hc'⟩, ⟨by omega, by omega, by omega⟩, by omega, by omega, by omega, by omega, ?_, ?_, ?_, ?_, ?_, ?_⟩
    · simp only [World.size_setCell]; omega
    · refine Ints.more (lo := w0.heap.size) (hi := M) ?_ (by omega) (Nat.le_refl _)
      (repeat (with_reducible refine Ints.set_ ?_ (by omega) _))
      exact D5.out
    · refine Ints.more (lo := w0.heap.size) (hi := M) ?_ (by omega) (Nat.le_refl _)
      (repeat (with_reducible refine Ints.set_ ?_ (by omega) _))
      exact S5.out
    · simp only [World.size_setCell]
      refine RowI.more (lo := M) (hi := w1.heap.size) ?_ (Nat.le_refl _) (by omega)
      (repeat (with_reducible refine RowI.set_ ?_ (by omega) _))
      exact B5.out
    · refine Ch.more (Ch.below C5.out (B := w.heap.size) ?_ hg) (by omega)
      (repeat (with_reducible refine below_set ?_ (by omega) _))
      exact Below.refl _ _
    · refine T5.out.step (C := w.heap.size) ?_ (Nat.le_refl _)
      (repeat (with_reducible refine below_set ?_ (by omega) _))
      exact Below.refl _ _
  · have e0 : (t == 0) = false := by simp [h0]
    by_cases h1 : t = 1
    · subst h1
      obtain ⟨i0, hi0, hz0, hz1, hz2⟩ := info_parts infoInt
      have hr3 : M ≤ w1.heap.size := hM1
      have x0 := (X3.out.2 0 _ rfl).1; have x1 := (X3.out.2 1 _ rfl).1; have x2 := (X3.out.2 2 _ rfl).1; have x3 := (X3.out.2 3 _ rfl).1; have x4 := (X3.out.2 4 _ rfl).1; have x5 := (X3.out.2 5 _ rfl).1
      have f0 := (X3.out.2 0 _ rfl).2; have f1 := (X3.out.2 1 _ rfl).2; have f2 := (X3.out.2 2 _ rfl).2; have f3 := (X3.out.2 3 _ rfl).2; have f4 := (X3.out.2 4 _ rfl).2; have f5 := (X3.out.2 5 _ rfl).2
      have xA := ((X3.out.alloc (.cells #[.int .i64 (-1), .int .i64 256] 3)).2 4 _ rfl).1
      go_wp2_with fail
      go_region_law (first | (go_simp; go_at_call 113; refine (one_lit (w := w3.drew) [-1, 256] C3.out (by omega) rfl rfl rfl (by decide) (by decide) (by decide)).mono ?_; rintro e w4 ⟨y, hy, rfl, hch, ht⟩; have hy1 : -1 ≤ y ∧ y ≤ 256 := (by simp at hy; omega); have s4 := ht.size; (try rw [World.size_drew] at s4); have X4 := Lib.hid (X3.out.drew.turn ht (by first | omega | (simp; omega) | (simp; done)) (by first | omega | (simp; omega) | (simp; done))); have R4 := Lib.hid (R3.out.drew.turn ht (by first | omega | (simp; omega) | (simp; done)) (by first | omega | (simp; omega) | (simp; done))); have D4 := Lib.hid (D3.out.drew.turn ht (by first | omega | (simp; omega) | (simp; done)) (by first | omega | (simp; omega) | (simp; done))); have S4 := Lib.hid (S3.out.drew.turn ht (by first | omega | (simp; omega) | (simp; done)) (by first | omega | (simp; omega) | (simp; done))); have B4 := Lib.hid (B3.out.drew.turn ht (by first | omega | (simp; omega) | (simp; done)) (by first | omega | (simp; omega) | (simp; done))); have T4 := Lib.hid (T3.out.drew.trans (ht.mono (by first | omega | (simp; omega) | (simp; done)))); have C4 := Lib.hid hch; clear hch ht hy; clear x0 x1 x2 x3 x4 x5; clear f0 f1 f2 f3 f4 f5; have x0 := (X4.out.2 0 _ rfl).1; have x1 := (X4.out.2 1 _ rfl).1; have x2 := (X4.out.2 2 _ rfl).1; have x3 := (X4.out.2 3 _ rfl).1; have x4 := (X4.out.2 4 _ rfl).1; have x5 := (X4.out.2 5 _ rfl).1; have f0 := (X4.out.2 0 _ rfl).2; have f1 := (X4.out.2 1 _ rfl).2; have f2 := (X4.out.2 2 _ rfl).2; have f3 := (X4.out.2 3 _ rfl).2; have f4 := (X4.out.2 4 _ rfl).2; have f5 := (X4.out.2 5 _ rfl).2; have xB := ((X4.out.alloc (.cells #[.int .i64 y] 3)).2 4 _ rfl).1) | (refine step_append_lies _ rfl (.tmp 17) (.tmp 21) 22 rfl M 3 i0 (.int .i64 0) 1 8 Tryd.underlying22 hi0 hz0 hz1 hz2 rfl (by decide) (.slice A2 n2 c2) n2 (R.map (Value.int .i64)) rfl ((B4.out.own.alloc (.cells #[.int .i64 y] 3)).drewN 1) ⟨w4.heap.size, 0, none⟩ 1 1 [.int .i64 y] rfl rfl (fun j u hu => intsCells (lit1W w4 y (by unfold okInt; omega)) j u hu) (by simp [Value.oneCell']) (by decide) (by unfold maxLen; omega) (by omega) (by first | omega | (simp; omega) | (simp; done)) (w4.heap.size + 1) (by simp) ?_; intro gg cap w5 hown5 hgrow hat hgl; have hgr : (w4.alloc (.cells #[.int .i64 y] 3)).grownBy w5 (Value.slice A2 n2 c2).ownBlock := hgrow; have hob2 : ∀ j, (Value.slice A2 n2 c2).ownBlock = some j → M ≤ j ∧ j < w1.heap.size := B4.out.lt; have hbl : ∀ k, k ≤ w4.heap.size → (∀ j, (Value.slice A2 n2 c2).ownBlock = some j → j ≠ k) → w5.heap[k]? = (w4.alloc (.cells #[.int .i64 y] 3)).heap[k]? := (fun k hk hj => hgr.block k (by simp; omega) (fun e => hj k e.symm rfl)); have X5 := Lib.hid (Box.block (X4.out.alloc (.cells #[.int .i64 y] 3)) (hbl w1.heap.size (by omega) (fun j hj => by have := hob2 j hj; omega)) hgr.size); clear x0 x1 x2 x3 x4 x5; clear f0 f1 f2 f3 f4 f5; have x0 := (X5.out.2 0 _ rfl).1; have x1 := (X5.out.2 1 _ rfl).1; have x2 := (X5.out.2 2 _ rfl).1; have x3 := (X5.out.2 3 _ rfl).1; have x4 := (X5.out.2 4 _ rfl).1; have x5 := (X5.out.2 5 _ rfl).1; have f0 := (X5.out.2 0 _ rfl).2; have f1 := (X5.out.2 1 _ rfl).2; have f2 := (X5.out.2 2 _ rfl).2; have f3 := (X5.out.2 3 _ rfl).2; have f4 := (X5.out.2 4 _ rfl).2; have f5 := (X5.out.2 5 _ rfl).2))
      all_goals
        have hown : OwnI w5 M (.slice (some ⟨gg, 0, none⟩) (n2 + 1) cap) (n2 + 1) (R ++ [y]) := by unfold OwnI; rw [List.map_append]; exact hown5
        have hok : ∀ x ∈ R ++ [y], okInt x := fun x hx => by rcases List.mem_append.1 hx with h | h; (exact B4.out.ok x h); (simp at h; subst h; unfold okInt; omega)
        have s5 : w4.heap.size + 1 ≤ w5.heap.size := by have := hgr.size; simp at this; omega
        have R5 := Lib.hid (Box.block (R4.out.alloc (.cells #[.int .i64 y] 3)) (hbl w.heap.size (by omega) (fun j hj => by have := hob2 j hj; omega)) hgr.size)
        have D5 := Lib.hid ((D4.out.alloc (by omega) (.cells #[.int .i64 y] 3)).blocks (w' := w5) fun k h1 h2 => hbl k (by omega) (fun j hj => by have := hob2 j hj; omega)); have S5 := Lib.hid ((S4.out.alloc (by omega) (.cells #[.int .i64 y] 3)).blocks (w' := w5) fun k h1 h2 => hbl k (by omega) (fun j hj => by have := hob2 j hj; omega))
        have B5 : Hid (RowI w5 M w5.heap.size (some ⟨gg, 0, none⟩) (n2 + 1) cap (R ++ [y])) := RowI.of_own hown hok fun k hk => hown.lt k hk
        have HB5 : Below w.heap.size (w4.alloc (.cells #[.int .i64 y] 3)) w5 := (below_grown (B4.out.own.alloc (.cells #[.int .i64 y] 3)) hgr (by simp; omega)).mono (by omega)
        have C5 := Lib.hid ((Ch.alloc C4.out (.cells #[.int .i64 y] 3)).below HB5 hg)
        have T5 := Lib.hid (T4.out.step ((Below.alloc (Below.refl w.heap.size w4) (by omega) (.cells #[.int .i64 y] 3)).trans HB5) (Nat.le_refl _))
        have hnb : ∀ j, (Value.slice (some ⟨gg, 0, none⟩) (n2 + 1) cap).ownBlock = some j → j ≠ w1.heap.size := fun j hj => by
          simp [Value.ownBlock] at hj
          subst hj
          rcases hat with h | h
          · have := hob2 _ h; omega
          · omega
        clear hown5 hgrow hat hgr hbl hob2 hown hok HB5 x0 x1 x2 x3 x4 x5 f0 f1 f2 f3 f4 f5
        go_upto_region 9 with (fail)
        have X6 : Hid (Box (w5.setCell ⟨w1.heap.size, 4, none⟩ (.slice (some ⟨gg, 0, none⟩) (n2 + 1) cap)) w1.heap.size [.slice A n c, .int .i64 p, .slice A' n' c', .int .i64 q, .slice (some ⟨gg, 0, none⟩) (n2 + 1) cap, .int .i64 z]) := by show Box _ _ _; have hx := X5.out.put (i := 4) (by simp) (.slice (some ⟨gg, 0, none⟩) (n2 + 1) cap); simpa using hx
        have R6 := Lib.hid (R5.out.set_ (b' := w1.heap.size) (o := 4) (by omega) (.slice (some ⟨gg, 0, none⟩) (n2 + 1) cap)); have D6 := Lib.hid (D5.out.set_ (b := w1.heap.size) (o := 4) (by omega) (.slice (some ⟨gg, 0, none⟩) (n2 + 1) cap)); have S6 := Lib.hid (S5.out.set_ (b := w1.heap.size) (o := 4) (by omega) (.slice (some ⟨gg, 0, none⟩) (n2 + 1) cap))
        have B6 : Hid (RowI (w5.setCell ⟨w1.heap.size, 4, none⟩ (.slice (some ⟨gg, 0, none⟩) (n2 + 1) cap)) M w5.heap.size (some ⟨gg, 0, none⟩) (n2 + 1) cap (R ++ [y])) := B5.out.put_ hnb _
        have C6 : Hid (Ch (w5.setCell ⟨w1.heap.size, 4, none⟩ (.slice (some ⟨gg, 0, none⟩) (n2 + 1) cap)) g _) := C5.out.below (B := w.heap.size) (by (repeat (with_reducible refine below_set ?_ (by omega) _)); exact Below.refl _ _) hg
        have T6 : Hid (Turn w.heap.size g w (w5.setCell ⟨w1.heap.size, 4, none⟩ (.slice (some ⟨gg, 0, none⟩) (n2 + 1) cap))) := T5.out.step (C := w.heap.size) (by (repeat (with_reducible refine below_set ?_ (by omega) _)); exact Below.refl _ _) (Nat.le_refl _)
        have z6 : w5.heap.size ≤ (w5.setCell ⟨w1.heap.size, 4, none⟩ (.slice (some ⟨gg, 0, none⟩) (n2 + 1) cap)).heap.size := by simp
        clear X5 R5 D5 S5 B5 C5 T5 hnb
        generalize (w5.setCell ⟨w1.heap.size, 4, none⟩ (.slice (some ⟨gg, 0, none⟩) (n2 + 1) cap)) = w6 at *
        have rl := R6.out.lt
        have x0 := (X6.out.2 0 _ rfl).1; have r0 := (R6.out.2 0 _ rfl).1; have f0 := (R6.out.2 0 _ rfl).2
        have x1 := (X6.out.2 1 _ rfl).1; have r1 := (R6.out.2 1 _ rfl).1; have f1 := (R6.out.2 1 _ rfl).2
        have x2 := (X6.out.2 2 _ rfl).1; have r2 := (R6.out.2 2 _ rfl).1; have f2 := (R6.out.2 2 _ rfl).2
        have x3 := (X6.out.2 3 _ rfl).1; have r3 := (R6.out.2 3 _ rfl).1; have f3 := (R6.out.2 3 _ rfl).2
        have x4 := (X6.out.2 4 _ rfl).1; have r4 := (R6.out.2 4 _ rfl).1; have f4 := (R6.out.2 4 _ rfl).2
        have x5 := (X6.out.2 5 _ rfl).1; have r5 := (R6.out.2 5 _ rfl).1; have f5 := (R6.out.2 5 _ rfl).2
        go_wp2
        refine bodyPost_ret (v := .agg #[.slice A n c, .int .i64 p, .slice A' n' c', .int .i64 q, .slice (some ⟨gg, 0, none⟩) (n2 + 1) cap, .int .i64 z]) (by simp [results, Tryd.results79, go_sem, x0, r0, f0, x1, r1, f1, x2, r2, f2, x3, r3, f3, x4, r4, f4, x5, r5, f5]) rfl ?_
        refine ⟨A, n, c, A', n', c', (some ⟨gg, 0, none⟩), (n2 + 1), cap, D, S, (R ++ [y]), p, q, z, M, rfl, ⟨hc, hc'⟩, ⟨by omega, by omega, by omega⟩, by omega, by omega, by omega, by omega, ?_, ?_, ?_, ?_, ?_, ?_⟩
        · simp only [World.size_setCell]; omega
        · refine Ints.more (lo := w0.heap.size) (hi := M) ?_ (by omega) (Nat.le_refl _)
          (repeat (with_reducible refine Ints.set_ ?_ (by omega) _))
          exact D6.out
        · refine Ints.more (lo := w0.heap.size) (hi := M) ?_ (by omega) (Nat.le_refl _)
          (repeat (with_reducible refine Ints.set_ ?_ (by omega) _))
          exact S6.out
        · simp only [World.size_setCell]
          refine RowI.more (lo := M) (hi := w5.heap.size) ?_ (Nat.le_refl _) (by omega)
          (repeat (with_reducible refine RowI.set_ ?_ (by omega) _))
          exact B6.out
        · refine Ch.more (Ch.below C6.out (B := w.heap.size) ?_ hg) (by omega)
          (repeat (with_reducible refine below_set ?_ (by omega) _))
          exact Below.refl _ _
        · refine T6.out.step (C := w.heap.size) ?_ (Nat.le_refl _)
          (repeat (with_reducible refine below_set ?_ (by omega) _))
          exact Below.refl _ _
    · have e1 : (t == 1) = false := by simp [h1]
      by_cases h2 : t = 2
      · subst h2
        go_wp2_with fail
        refine (one_lit [1000, 901, -1] C3.out (by omega) rfl rfl rfl (by decide) (by decide) (by decide)).mono ?_
        rintro e w4 ⟨y, hy, rfl, hch, ht⟩
        have hy1 : -1 ≤ y ∧ y ≤ 1000 := by simp at hy; omega
        have s4 := ht.size
        have X4 := Lib.hid (X3.out.turn ht (by omega) (by omega)); have D4 := Lib.hid (D3.out.turn ht (by omega) (by omega)); have S4 := Lib.hid (S3.out.turn ht (by omega) (by omega)); have B4 := Lib.hid (B3.out.turn ht (by omega) (by omega)); have C4 := Lib.hid hch; have R4 := Lib.hid (R3.out.turn ht (by omega) (by omega)); have T4 := Lib.hid (T3.out.trans (ht.mono (by omega)))
        clear hy hch ht X3 D3 S3 B3 C3 R3 T3
        have zx := (X4.out.2 3 _ rfl).1; have zf := (X4.out.2 3 _ rfl).2
        go_upto_region 9 with (fail)
        have X5 : Hid (Box (w4.setCell ⟨w1.heap.size, 3, none⟩ (.int .i64 y)) w1.heap.size [.slice A n c, .int .i64 p, .slice A' n' c', .int .i64 y, .slice A2 n2 c2, .int .i64 z]) := by show Box _ _ _; have hx := X4.out.put (i := 3) (by simp) (.int .i64 y); simpa using hx
        have R5 := Lib.hid (R4.out.set_ (b' := w1.heap.size) (o := 3) (by omega) (.int .i64 y)); have D5 := Lib.hid (D4.out.set_ (b := w1.heap.size) (o := 3) (by omega) (.int .i64 y)); have S5 := Lib.hid (S4.out.set_ (b := w1.heap.size) (o := 3) (by omega) (.int .i64 y)); have B5 := Lib.hid (B4.out.set_ (b := w1.heap.size) (o := 3) (by omega) (.int .i64 y))
        have C5 : Hid (Ch (w4.setCell ⟨w1.heap.size, 3, none⟩ (.int .i64 y)) g _) := C4.out.below (B := w.heap.size) (by (repeat (with_reducible refine below_set ?_ (by omega) _)); exact Below.refl _ _) hg
        have T5 : Hid (Turn w.heap.size g w (w4.setCell ⟨w1.heap.size, 3, none⟩ (.int .i64 y))) := T4.out.step (C := w.heap.size) (by (repeat (with_reducible refine below_set ?_ (by omega) _)); exact Below.refl _ _) (Nat.le_refl _)
        have z5 : w4.heap.size ≤ (w4.setCell ⟨w1.heap.size, 3, none⟩ (.int .i64 y)).heap.size := by simp
        clear zx zf X4 R4 D4 S4 B4 C4 T4
        generalize (w4.setCell ⟨w1.heap.size, 3, none⟩ (.int .i64 y)) = w5 at *
        have rl := R5.out.lt
        have x0 := (X5.out.2 0 _ rfl).1; have r0 := (R5.out.2 0 _ rfl).1; have f0 := (R5.out.2 0 _ rfl).2
        have x1 := (X5.out.2 1 _ rfl).1; have r1 := (R5.out.2 1 _ rfl).1; have f1 := (R5.out.2 1 _ rfl).2
        have x2 := (X5.out.2 2 _ rfl).1; have r2 := (R5.out.2 2 _ rfl).1; have f2 := (R5.out.2 2 _ rfl).2
        have x3 := (X5.out.2 3 _ rfl).1; have r3 := (R5.out.2 3 _ rfl).1; have f3 := (R5.out.2 3 _ rfl).2
        have x4 := (X5.out.2 4 _ rfl).1; have r4 := (R5.out.2 4 _ rfl).1; have f4 := (R5.out.2 4 _ rfl).2
        have x5 := (X5.out.2 5 _ rfl).1; have r5 := (R5.out.2 5 _ rfl).1; have f5 := (R5.out.2 5 _ rfl).2
        go_wp2
        refine bodyPost_ret (v := .agg #[.slice A n c, .int .i64 p, .slice A' n' c', .int .i64 y, .slice A2 n2 c2, .int .i64 z]) (by simp [results, Tryd.results79, go_sem, x0, r0, f0, x1, r1, f1, x2, r2, f2, x3, r3, f3, x4, r4, f4, x5, r5, f5]) rfl ?_
        refine ⟨A, n, c, A', n', c', A2, n2, c2, D, S, R, p, y, z, M, rfl, ⟨hc, hc'⟩, ⟨by omega, by omega, by omega⟩, by omega, by omega, by omega, by omega, ?_, ?_, ?_, ?_, ?_, ?_⟩
        · simp only [World.size_setCell]; omega
        · refine Ints.more (lo := w0.heap.size) (hi := M) ?_ (by omega) (Nat.le_refl _)
          (repeat (with_reducible refine Ints.set_ ?_ (by omega) _))
          exact D5.out
        · refine Ints.more (lo := w0.heap.size) (hi := M) ?_ (by omega) (Nat.le_refl _)
          (repeat (with_reducible refine Ints.set_ ?_ (by omega) _))
          exact S5.out
        · simp only [World.size_setCell]
          refine RowI.more (lo := M) (hi := w1.heap.size) ?_ (Nat.le_refl _) (by omega)
          (repeat (with_reducible refine RowI.set_ ?_ (by omega) _))
          exact B5.out
        · refine Ch.more (Ch.below C5.out (B := w.heap.size) ?_ hg) (by omega)
          (repeat (with_reducible refine below_set ?_ (by omega) _))
          exact Below.refl _ _
        · refine T5.out.step (C := w.heap.size) ?_ (Nat.le_refl _)
          (repeat (with_reducible refine below_set ?_ (by omega) _))
          exact Below.refl _ _
      · have e2 : (t == 2) = false := by simp [h2]
        have rl := R3.out.lt
        have x0 := (X3.out.2 0 _ rfl).1; have r0 := (R3.out.2 0 _ rfl).1; have f0 := (R3.out.2 0 _ rfl).2
        have x1 := (X3.out.2 1 _ rfl).1; have r1 := (R3.out.2 1 _ rfl).1; have f1 := (R3.out.2 1 _ rfl).2
        have x2 := (X3.out.2 2 _ rfl).1; have r2 := (R3.out.2 2 _ rfl).1; have f2 := (R3.out.2 2 _ rfl).2
        have x3 := (X3.out.2 3 _ rfl).1; have r3 := (R3.out.2 3 _ rfl).1; have f3 := (R3.out.2 3 _ rfl).2
        have x4 := (X3.out.2 4 _ rfl).1; have r4 := (R3.out.2 4 _ rfl).1; have f4 := (R3.out.2 4 _ rfl).2
        have x5 := (X3.out.2 5 _ rfl).1; have r5 := (R3.out.2 5 _ rfl).1; have f5 := (R3.out.2 5 _ rfl).2
        go_wp2
        refine bodyPost_ret (v := .agg #[.slice A n c, .int .i64 p, .slice A' n' c', .int .i64 q, .slice A2 n2 c2, .int .i64 z]) (by simp [results, Tryd.results79, go_sem, x0, r0, f0, x1, r1, f1, x2, r2, f2, x3, r3, f3, x4, r4, f4, x5, r5, f5]) rfl ?_
        refine ⟨A, n, c, A', n', c', A2, n2, c2, D, S, R, p, q, z, M, rfl, ⟨hc, hc'⟩, ⟨by omega, by omega, by omega⟩, by omega, by omega, by omega, by omega, ?_, ?_, ?_, ?_, ?_, ?_⟩
        · simp only [World.size_setCell]; omega
        · refine Ints.more (lo := w0.heap.size) (hi := M) ?_ (by omega) (Nat.le_refl _)
          (repeat (with_reducible refine Ints.set_ ?_ (by omega) _))
          exact D3.out
        · refine Ints.more (lo := w0.heap.size) (hi := M) ?_ (by omega) (Nat.le_refl _)
          (repeat (with_reducible refine Ints.set_ ?_ (by omega) _))
          exact S3.out
        · simp only [World.size_setCell]
          refine RowI.more (lo := M) (hi := w1.heap.size) ?_ (Nat.le_refl _) (by omega)
          (repeat (with_reducible refine RowI.set_ ?_ (by omega) _))
          exact B3.out
        · refine Ch.more (Ch.below C3.out (B := w.heap.size) ?_ hg) (by omega)
          (repeat (with_reducible refine below_set ?_ (by omega) _))
          exact Below.refl _ _
        · refine T3.out.step (C := w.heap.size) ?_ (Nat.le_refl _)
          (repeat (with_reducible refine below_set ?_ (by omega) _))
          exact Below.refl _ _
/-- A writer in new memory, drawn. -/
def RdrX (w w' : World) (A : Option Addr) (n c : Nat) (A' : Option Addr) (n' c' : Nat) (A2 : Option Addr) (n2 c2 : Nat) (D S R : List Int) (p q z : Int) : Prop :=
  (n ≤ c ∧ n' ≤ c' ∧ n2 ≤ c2) ∧ (n ≤ 61 ∧ n' ≤ 7 ∧ n2 ≤ 61) ∧ (-1 ≤ p ∧ p ≤ 61) ∧ (-1 ≤ q ∧ q ≤ 1001) ∧ (0 ≤ z ∧ z ≤ 17) ∧ Below w.heap.size w w' ∧ Ints w' w.heap.size w'.heap.size A n D ∧ Ints w' w.heap.size w'.heap.size A' n' S ∧ Ints w' w.heap.size w'.heap.size A2 n2 R
def DrawnR (w : World) (e : Ending) (w' : World) : Prop := ∃ A n c A' n' c' A2 n2 c2 D S R p q z, e = .returned (.agg #[.slice (A) n c, .int .i64 (p), .slice (A') n' c', .int .i64 (q), .slice (A2) n2 c2, .int .i64 (z)]) ∧ RdrX w w' A n c A' n' c' A2 n2 c2 D S R p q z
def DrawnRI (w : World) (e : Ending) (w' : World) : Prop := ∃ A n c A' n' c' A2 n2 c2 D S R p q z y, e = .returned (.tuple #[.agg #[.slice (A) n c, .int .i64 (p), .slice (A') n' c', .int .i64 (q), .slice (A2) n2 c2, .int .i64 (z)], .int .i64 y]) ∧ RdrX w w' A n c A' n' c' A2 n2 c2 D S R p q z ∧ (-1 ≤ y ∧ y ≤ 61)
def DrawnRII (w : World) (e : Ending) (w' : World) : Prop := ∃ A n c A' n' c' A2 n2 c2 D S R p q z y x, e = .returned (.tuple #[.agg #[.slice (A) n c, .int .i64 (p), .slice (A') n' c', .int .i64 (q), .slice (A2) n2 c2, .int .i64 (z)], .int .i64 y, .int .i64 x]) ∧ RdrX w w' A n c A' n' c' A2 n2 c2 D S R p q z ∧ (-61 ≤ y ∧ y ≤ 256) ∧ (-1 ≤ x ∧ x ≤ 61)
theorem BytesIn.allocR {w : World} {A : Option Addr} {n : Nat} (h : BytesIn w w.heap.size A n) (o : Obj) : BytesIn (w.alloc o) (w.alloc o).heap.size A n := fun hn => by
  obtain ⟨b, f, e, hb, hc⟩ := (h.keep (w' := w.alloc o) fun b hb => Below.heap_alloc w o b hb) hn
  exact ⟨b, f, e, by simp; omega, hc⟩
set_option maxHeartbeats 4000000 in
theorem DrawRoomOf_any {A : Option Addr} {n c : Nat} {w : World} (h : BytesIn w w.heap.size A n) (hn : n ≤ 1048576) (hnc : n ≤ c) : Calls Tryd.prog 44 #[.slice A n c] w (DrawnR w) := by
  have R0 := Lib.hid (Box.new w 30 [.slice none 0 0, .int .i64 0, .slice none 0 0, .int .i64 0, .slice none 0 0, .int .i64 0])
  go_enter Tryd.func44, Tryd.ntmps44
  go_wp2_with fail
  refine (newChooser_any (h.allocR _) hn hnc).mono ?_
  rintro e w1 ⟨rfl, hch, hb⟩
  (try simp only [World.size_alloc, World.size_setCell, World.size_drew] at hch hb)
  have HC := Lib.hid hch
  have hg := hch.lt
  have HB : Hid (Below w.heap.size w w1) := below_step hb (by go_grown) (by omega)
  have R1 := Lib.hid (R0.out.below hb (by omega))
  have z1 := HB.out.size
  clear hch hb R0
  go_wp2_with fail
  refine (someWriter_any HC.out (by omega)).mono ?_
  rintro e w2 ⟨A, n, c, A', n', c', A2, n2, c2, D, S, R, p, q, z, M, rfl, ⟨hc, hc'⟩, ⟨hn, hn', hn2⟩, hp, hq, hz, hM0, hM1, hD, hS, hB, hch, ht⟩
  have s2 := ht.size
  have D2 := Lib.hid hD; have S2 := Lib.hid hS; have B2 := Lib.hid hB; have C2 := Lib.hid hch
  have R2 := Lib.hid (R1.out.turn ht (by omega) (by omega)); have E2 : Hid (Below w.heap.size w w2) := HB.out.trans (ht.below (by omega) (by omega))
  clear hD hS hB hch ht HC R1 HB
  have r0 := (R2.out.2 0 _ rfl).1; have r1 := (R2.out.2 1 _ rfl).1; have r2 := (R2.out.2 2 _ rfl).1; have r3 := (R2.out.2 3 _ rfl).1; have r4 := (R2.out.2 4 _ rfl).1; have r5 := (R2.out.2 5 _ rfl).1
  have g0 := (R2.out.2 0 _ rfl).2; have g1 := (R2.out.2 1 _ rfl).2; have g2 := (R2.out.2 2 _ rfl).2; have g3 := (R2.out.2 3 _ rfl).2; have g4 := (R2.out.2 4 _ rfl).2; have g5 := (R2.out.2 5 _ rfl).2
  go_wp2
  refine bodyPost_ret (v := .agg #[.slice (A) n c, .int .i64 (p), .slice (A') n' c', .int .i64 (q), .slice (A2) n2 c2, .int .i64 (z)]) (by simp [results, Tryd.results44, go_sem, r0, r1, r2, r3, r4, r5, g0, g1, g2, g3, g4, g5]) rfl ?_
  refine ⟨A, n, c, A', n', c', A2, n2, c2, D, S, R, p, q, z, rfl, ⟨⟨hc, hc', B2.out.cap⟩, ⟨hn, hn', hn2⟩, hp, hq, hz, ?_, ?_, ?_, ?_⟩⟩
  · (repeat (with_reducible refine below_set ?_ (by omega) _))
    exact E2.out
  · simp only [World.size_setCell]
    refine Ints.more (lo := w1.heap.size) (hi := M) ?_ (by omega) (by omega)
    (repeat (with_reducible refine Ints.set_ ?_ (by omega) _))
    exact D2.out
  · simp only [World.size_setCell]
    refine Ints.more (lo := w1.heap.size) (hi := M) ?_ (by omega) (by omega)
    (repeat (with_reducible refine Ints.set_ ?_ (by omega) _))
    exact S2.out
  · simp only [World.size_setCell]
    refine Ints.more (lo := M) (hi := w2.heap.size) ?_ (by omega) (by omega)
    (repeat (with_reducible refine Ints.set_ ?_ (by omega) _))
    exact B2.out.ints
end Go.Proofs.YtdiebkaedjlckaaDoor
