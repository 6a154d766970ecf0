/- A file's flush, the program's; FlushBoth. -/
import Derived.Test.YtphkkalkajleiaaDoorC3f
import Derived.Test.YtphkkalkajleiaaDoorC4b
namespace Go.Proofs.YtphkkalkajleiaaDoor
open Go.ChangeShapes Go.WideShapes Go.ChangeAt Go.RowKit
set_option linter.unusedSimpArgs false
set_option linter.unusedVariables false
set_option maxRecDepth 10000

/-- A file can be used. -/
def goodB (D : List Int) (p : Int) (S : List Int) (q : Int) (R Q : List Int) (z : Int) : Bool := validB D p S q R Q z && decide (q ≤ 800)
theorem goodB_start {D S R Q : List Int} {p q z : Int} (h : goodB D p S q R Q z = true) : validB D p S q R Q z = true ∧ validD D p S (q.toNat : Int) = true ∧ q.toNat ≤ 800 ∧ allB Q 0 255 = true ∧ 0 ≤ q := by
  unfold goodB at h
  obtain ⟨hv, hq⟩ := Bool.and_eq_true_iff.1 h
  have hq2 := of_decide_eq_true hq
  obtain ⟨hr, hw, _⟩ := validB_iff.1 hv
  obtain ⟨hd, _, _, hQ⟩ := validW_iff.1 hw
  have hq0 := (validD_iff.1 hd).2.2.2.2.1
  exact ⟨hv, by rw [Int.toNat_of_nonneg hq0]; exact hd, by omega, hQ, hq0⟩
def bvOf (S R : List Int) (z : Int) (T : Fv) : Bv := ⟨T.d, T.p, S, (T.q : Int), R, T.r, z⟩
def fbOut (D : List Int) (p : Int) (S : List Int) (q : Int) (R Q : List Int) (z : Int) : Bv × Int :=
  if goodB D p S q R Q z then (bvOf S R z (fuGo S Q.length D p q.toNat Q), (fuGo S Q.length D p q.toNat Q).st) else (Bv.zero, 5)
def LenB (o : Bv × Int) : Prop := o.1.d.length ≤ 60 ∧ o.1.s.length ≤ 60 ∧ o.1.r.length ≤ 60 ∧ o.1.o.length ≤ 60
theorem fbOut_le (D : List Int) (p : Int) (S : List Int) (q : Int) (R Q : List Int) (z : Int) : LenB (fbOut D p S q R Q z) := by
  unfold fbOut
  split
  · obtain ⟨h1, h2, h3, h4, h5⟩ := goodB_start ‹_›
    obtain ⟨i1, i2, i3, i4, i5⟩ := fuGo_valid Q.length D p q.toNat Q h2 h4 (by have := (validB_len h1).2.2.2.1; omega)
    obtain ⟨hb, hs, _⟩ := validD_iff.1 i1
    have hl := validB_len h1
    exact ⟨bytesB_le hb, by show S.length ≤ 60; omega, by show R.length ≤ 60; omega, by show (fuGo S Q.length D p q.toNat Q).r.length ≤ 60; omega⟩
  · exact ⟨by decide, by decide, by decide, by decide⟩
/-- A file and an int in new memory. -/
def PostBI (o : Bv × Int) (w : World) (e : Ending) (w' : World) : Prop :=
  ∃ A n c A' n' c' A2 n2 c2 A3 n3 c3, e = .returned (.tuple #[.agg #[.slice (A) n c, .int .i64 (o.1.p), .slice (A') n' c', .int .i64 (o.1.q), .slice (A2) n2 c2, .slice (A3) n3 c3, .int .i64 (o.1.z)], .int .i64 o.2]) ∧ (n ≤ c ∧ n' ≤ c' ∧ n2 ≤ c2 ∧ n3 ≤ c3) ∧ Below w.heap.size w w' ∧ BotB w' w.heap.size w'.heap.size A n A' n' A2 n2 A3 n3 o.1
theorem PostBI.zero {w w' : World} (hb : Below w.heap.size w w') : PostBI (Bv.zero, 5) w (.returned (.tuple #[.agg #[.slice none 0 0, .int .i64 0, .slice none 0 0, .int .i64 0, .slice none 0 0, .slice none 0 0, .int .i64 0], .int .i64 5])) w' :=
  ⟨none, 0, 0, none, 0, 0, none, 0, 0, none, 0, 0, rfl, ⟨Nat.le_refl _, Nat.le_refl _, Nat.le_refl _, Nat.le_refl _⟩, hb, ⟨DevIn.zero _ _ _, (Ints.nil _ _ _ 0 _).1, fun h => absurd h (by omega), fun h => absurd h (by omega), by unfold okInt; show _ ≤ (0 : Int) ∧ (0 : Int) ≤ _; omega⟩, (Ints.nil _ _ _ 0 _).1, fun h => absurd h (by omega), fun h => absurd h (by omega), fun h => absurd h (by omega)⟩
theorem keepSet {w : World} {b c o k : Nat} {v u : Value} (h : w.cell? ⟨b, o, none⟩ = some v) (hne : b ≠ c) : (w.setCell ⟨c, k, none⟩ u).cell? ⟨b, o, none⟩ = some v :=
  (World.cell?_of_block (w := w) (a := ⟨b, o, none⟩) (Below.heap_setCell _ ⟨c, k, none⟩ u b hne)).trans h
/-- A file at work in box b. -/
def FileAt (lo b : Nat) (A : Option Addr) (n c : Nat) (A' : Option Addr) (n' c' : Nat) (D S : List Int) (z p : Int) (q : Nat) (A2 : Option Addr) (n2 c2 : Nat) (R : List Int) (A3 : Option Addr) (n3 c3 : Nat) (Q : List Int) (M C M2 C2 M3 C3 : Nat) (w : World) : Prop :=
  Box w b [.slice (A) n c, .int .i64 (p), .slice (A') n' c', .int .i64 ((q : Int)), .slice (A2) n2 c2, .slice (A3) n3 c3, .int .i64 (z)] ∧ (Ints w M C A n D ∧ Ints w lo b A' n' S ∧ Ints w M2 C2 A2 n2 R ∧ Ints w M3 C3 A3 n3 Q) ∧ ((b < M ∨ C ≤ b) ∧ (b < M2 ∨ C2 ≤ b) ∧ (b < M3 ∨ C3 ≤ b)) ∧ (lo ≤ b ∧ lo ≤ M ∧ lo ≤ M2 ∧ lo ≤ M3) ∧ (C ≤ w.heap.size ∧ C2 ≤ w.heap.size ∧ C3 ≤ w.heap.size ∧ M ≤ w.heap.size) ∧ (n ≤ c ∧ n2 ≤ c2 ∧ n3 ≤ c3) ∧
  (Apart A n A' n' ∧ Apart A2 n2 A n ∧ Apart A2 n2 A' n' ∧ Apart A3 n3 A n ∧ Apart A3 n3 A' n' ∧ Apart A3 n3 A2 n2)
set_option maxHeartbeats 2000000 in
theorem asWriter_any {A A' A2 A3 : Option Addr} {n c n' c' n2 c2 n3 c3 b : Nat} {p q z : Int} {w : World} (hX : Box w b [.slice (A) n c, .int .i64 (p), .slice (A') n' c', .int .i64 (q), .slice (A2) n2 c2, .slice (A3) n3 c3, .int .i64 (z)]) :
    Calls Tryd.prog 106 #[.pointer (some ⟨b, 0, none⟩)] w (fun e w' => e = .returned (.pointer (some ⟨w.heap.size, 0, none⟩)) ∧ Below w.heap.size w w' ∧ Box w' w.heap.size [.slice (A) n c, .int .i64 (p), .slice (A') n' c', .int .i64 (q), .slice (A3) n3 c3, .int .i64 (z)]) := by
  have HX := Lib.hid hX
  have x0 := (HX.out.2 0 _ rfl).1; have x1 := (HX.out.2 1 _ rfl).1; have x2 := (HX.out.2 2 _ rfl).1; have x3 := (HX.out.2 3 _ rfl).1; have x4 := (HX.out.2 4 _ rfl).1; have x5 := (HX.out.2 5 _ rfl).1; have x6 := (HX.out.2 6 _ rfl).1
  clear hX
  go_enter Tryd.func106, Tryd.ntmps106
  go_wp2_with fail
  go_still_tail 13, (by kernel_rfl)
  change wpList _ _ _ _ _ w.drew
  go_wp2
  go_ret
  exact ⟨rfl, ((Below.refl _ _).alloc (Nat.le_refl _) _).drew, (Box.new w 89 [.slice (A) n c, .int .i64 (p), .slice (A') n' c', .int .i64 (q), .slice (A3) n3 c3, .int .i64 (z)]).drew⟩
set_option maxHeartbeats 8000000 in
theorem fflush_any {lo b n c n' c' n2 c2 n3 c3 q0 M C M2 C2 M3 C3 E : Nat} {A A' A2 A3 : Option Addr} {D S R Q : List Int} {z p : Int} {a0 a1 a2 : Addr} {w : World} (h : FileAt lo b A n c A' n' c' D S z p q0 A2 n2 c2 R A3 n3 c3 Q M C M2 C2 M3 C3 w) (hE : Errs w E a0 a1 a2) (hElo : E ≤ lo) (hv : validD D p S (q0 : Int) = true) (hq : q0 ≤ 900) (hQ : Q.length ≤ 16) (hQ2 : allB Q 0 255 = true) :
    Calls Tryd.prog 78 #[.pointer (some ⟨b, 0, none⟩)] w (fun e w' => ∃ A5 n5 c5 A6 n6 c6 M5 C5, e = .returned (errV a0 a1 a2 (fuGo S Q.length D p q0 Q).st) ∧ Turn w.heap.size b w w' ∧ FileAt lo b A5 n5 c5 A' n' c' (fuGo S Q.length D p q0 Q).d S z (fuGo S Q.length D p q0 Q).p (fuGo S Q.length D p q0 Q).q A2 n2 c2 R A6 n6 c6 (fuGo S Q.length D p q0 Q).r M5 C5 M2 C2 M3 C3 w') := by
  obtain ⟨T, hT⟩ : ∃ T, fuGo S Q.length D p q0 Q = T := ⟨_, rfl⟩
  rw [hT]
  have HT := Lib.hid hT
  obtain ⟨hX, ⟨hD, hS, hR, hQl⟩, ⟨hbM, hbM2, hbM3⟩, ⟨hlo, hloM, hloM2, hloM3⟩, ⟨hC, hC2, hC3, hM⟩, ⟨hc, hc2, hc3⟩, ⟨p1, p2, p3, p4, p5, p6⟩⟩ := h
  have hbw := hX.lt
  have HX := Lib.hid hX
  have HD := Lib.hid hD
  have HS := Lib.hid hS
  have HR := Lib.hid hR
  have HQ := Lib.hid hQl
  have HP := Lib.hid (And.intro p1 (And.intro p2 (And.intro p3 (And.intro p4 (And.intro p5 p6)))))
  have HV := Lib.hid hv
  have HA := Lib.hid hQ2
  have HE := Lib.hid hE
  clear hT hX hD hS hR hQl p1 p2 p3 p4 p5 p6 hv hQ2 hE
  go_enter Tryd.func78, Tryd.ntmps78
  go_wp2_with fail
  refine (asWriter_any HX.out).mono ?_
  rintro e w1 ⟨rfl, hb1, hx1⟩
  have s1 := hb1.size
  have l1 := hx1.lt
  have BK := Lib.hid (show BackAt lo w.heap.size A n c A' n' c' D S z p q0 A3 n3 c3 Q M C M3 C3 w1 from ⟨hx1, ⟨HD.out.below hb1 hC, (HS.out.below hb1 (by omega)).more (Nat.le_refl _) (by omega), HQ.out.below hb1 hC3⟩, ⟨.inr hC, .inr hC3⟩, ⟨by omega, hloM, hloM3, by omega, by omega, by omega⟩, ⟨hc, hc3⟩, ⟨HP.out.1, HP.out.2.2.2.1, HP.out.2.2.2.2.1⟩⟩)
  have X1 := Lib.hid (HX.out.below hb1 hbw)
  have S1 := Lib.hid (HS.out.below hb1 (by omega))
  have R1 := Lib.hid (HR.out.below hb1 hC2)
  have HE1 := Lib.hid (HE.out.below hb1 (by omega))
  have HB1 := Lib.hid hb1
  clear hb1 hx1 HX HS HD HQ HE
  have hflush := flush_any2 BK.out HE1.out hElo HV.out hq hQ HA.out
  rw [HT.out] at hflush
  have HF := Lib.hid hflush
  clear hflush
  go_wp2_with fail
  refine HF.out.mono ?_
  rintro e w2 ⟨A5, n5, c5, A6, n6, c6, M5, C5, rfl, ht, hbk, hor, hxa, hpt⟩
  have s2 := ht.size
  have hbM5 : b < M5 ∨ C5 ≤ b := by rcases hor with ⟨rfl, rfl⟩ | h <;> omega
  have BK2 := Lib.hid hbk
  have APX : Hid (Apart A2 n2 A5 n5 ∧ Apart A6 n6 A2 n2) := by
    show _ ∧ _
    refine ⟨?_, hpt _ _ HP.out.2.2.2.2.2⟩
    rcases hxa with ⟨rfl, rfl⟩ | h
    · exact HP.out.2.1
    · exact Apart.of_le HR.out hbk.2.1.1 (by omega)
  have X2 := Lib.hid (X1.out.turn ht (by omega) (by omega))
  have S2 := Lib.hid (S1.out.turn ht (by omega) (by omega))
  have R2 := Lib.hid (R1.out.turn ht (by omega) (by omega))
  have T2 : Hid (Turn w.heap.size b w w2) := (Turn.of_below HB1.out (Nat.le_refl _)).trans (Turn.of_below (ht.below (Nat.le_refl _) s1) (Nat.le_refl _))
  clear ht hbk HF BK X1 S1 R1 HE1
  obtain ⟨ev, hev⟩ : ∃ ev, errV a0 a1 a2 T.st = ev := ⟨_, rfl⟩
  rw [hev]
  have HEV := Lib.hid hev
  have y0 := (BK2.out.1.2 0 _ rfl).1
  have y1 := (BK2.out.1.2 1 _ rfl).1
  have y2 := (BK2.out.1.2 2 _ rfl).1
  have y3 := (BK2.out.1.2 3 _ rfl).1
  have y4 := (BK2.out.1.2 4 _ rfl).1
  have x0 := (X2.out.2 0 _ rfl).1; have x1 := (X2.out.2 1 _ rfl).1; have x2 := (X2.out.2 2 _ rfl).1; have x3 := (X2.out.2 3 _ rfl).1; have x4 := (X2.out.2 4 _ rfl).1; have x5 := (X2.out.2 5 _ rfl).1; have x6 := (X2.out.2 6 _ rfl).1
  have f0 := (X2.out.2 0 _ rfl).2; have f1 := (X2.out.2 1 _ rfl).2; have f2 := (X2.out.2 2 _ rfl).2; have f3 := (X2.out.2 3 _ rfl).2; have f4 := (X2.out.2 4 _ rfl).2; have f5 := (X2.out.2 5 _ rfl).2; have f6 := (X2.out.2 6 _ rfl).2
  have hne : w.heap.size ≠ b := by omega
  clear hev
  go_wp2_with fail
  go_region_held3 (fun w' => w'.cell? ⟨w.heap.size, 0, none⟩ = some (.slice A5 n5 c5) ∧ w'.cell? ⟨w.heap.size, 1, none⟩ = some (.int .i64 T.p) ∧ w'.cell? ⟨w.heap.size, 2, none⟩ = some (.slice A' n' c') ∧ w'.cell? ⟨w.heap.size, 3, none⟩ = some (.int .i64 (T.q : Int)) ∧ w'.cell? ⟨w.heap.size, 4, none⟩ = some (.slice A6 n6 c6)) (refine ⟨?_, ?_, ?_, ?_, ?_⟩ <;> (repeat (first | (with_reducible assumption) | (with_reducible refine keep0 ?_) | (with_reducible refine keepSet ?_ hne)))) (fail)
  all_goals
    go_wp2
    go_ret
    obtain ⟨b1, ⟨b2, b3, b4⟩, ⟨b5, b5'⟩, ⟨b6, b7, b8, b9, b10, bms⟩, ⟨b11, b12⟩, b13, b14, b15⟩ := BK2.out
    refine ⟨A5, n5, c5, A6, n6, c6, M5, C5, by rw [HEV.out]; rfl, ?_, ?_, ⟨?_, ?_, ?_, ?_⟩, ⟨hbM5, hbM2, hbM3⟩, ⟨hlo, b7, hloM2, hloM3⟩, ⟨by simpa using b9, by simpa using (show C2 ≤ w2.heap.size by omega), by simpa using (show C3 ≤ w2.heap.size by omega), by simpa using bms⟩, ⟨b11, hc2, b12⟩, ⟨b13, APX.out.1, HP.out.2.2.1, b14, b15, APX.out.2⟩⟩
    · repeat (first | (with_reducible exact T2.out) | (with_reducible refine Turn.put ?_ _) | (with_reducible refine Turn.drew ?_))
    · have hx := ((((X2.out.put (i := 0) (by simp) (.slice A5 n5 c5)).put (i := 1) (by simp) (.int .i64 T.p)).put (i := 2) (by simp) (.slice A' n' c')).put (i := 3) (by simp) (.int .i64 (T.q : Int))).put (i := 5) (by simp) (.slice A6 n6 c6)
      have hy := hx.drew
      simpa using hy
    · repeat (first | (with_reducible exact b2) | (with_reducible refine Ints.drew ?_) | (with_reducible refine Ints.set_ ?_ hbM5 _))
    · repeat (first | (with_reducible exact S2.out) | (with_reducible refine Ints.drew ?_) | (with_reducible refine Ints.set_ ?_ (.inr (Nat.le_refl _)) _))
    · repeat (first | (with_reducible exact R2.out) | (with_reducible refine Ints.drew ?_) | (with_reducible refine Ints.set_ ?_ hbM2 _))
    · repeat (first | (with_reducible exact b4) | (with_reducible refine Ints.drew ?_) | (with_reducible refine Ints.set_ ?_ hbM3 _))
set_option maxHeartbeats 2000000 in
theorem canGoOn_any {A A' A2 A3 : Option Addr} {n c n' c' n2 c2 n3 c3 : Nat} {D S R Q : List Int} {p q z : Int} {w : World} {L L' B B' M C U V : Nat} (h : Ints w L B A n D) (h' : Ints w L' B' A' n' S) (g : Ints w M C A2 n2 R) (j : Ints w U V A3 n3 Q) (hB : B ≤ w.heap.size) (hB' : B' ≤ w.heap.size) (hC : C ≤ w.heap.size) (hV : V ≤ w.heap.size) (hnc : n ≤ c) :
    Calls Tryd.prog 76 #[.agg #[.slice (A) n c, .int .i64 (p), .slice (A') n' c', .int .i64 (q), .slice (A2) n2 c2, .slice (A3) n3 c3, .int .i64 (z)]] w (BoolB (goodB D p S q R Q z) w) := by
  have HQ := Lib.hid j.len
  have HG := Lib.hid g.len
  have HL := Lib.hid h.len
  have HL' := Lib.hid h'.len
  have H10 := Lib.hid (h.alloc hB (.cells #[.slice (A) n c, .int .i64 (p), .slice (A') n' c', .int .i64 (q), .slice (A2) n2 c2, .slice (A3) n3 c3, .int .i64 (z)] 51))
  have H20 := Lib.hid (h'.alloc hB' (.cells #[.slice (A) n c, .int .i64 (p), .slice (A') n' c', .int .i64 (q), .slice (A2) n2 c2, .slice (A3) n3 c3, .int .i64 (z)] 51))
  have G0 := Lib.hid (g.alloc hC (.cells #[.slice (A) n c, .int .i64 (p), .slice (A') n' c', .int .i64 (q), .slice (A2) n2 c2, .slice (A3) n3 c3, .int .i64 (z)] 51))
  have J0 := Lib.hid (j.alloc hV (.cells #[.slice (A) n c, .int .i64 (p), .slice (A') n' c', .int .i64 (q), .slice (A2) n2 c2, .slice (A3) n3 c3, .int .i64 (z)] 51))
  have X0 := Lib.hid (Box.new w 51 [.slice (A) n c, .int .i64 (p), .slice (A') n' c', .int .i64 (q), .slice (A2) n2 c2, .slice (A3) n3 c3, .int .i64 (z)])
  have E0 : Hid (Below w.heap.size w (w.alloc (.cells #[.slice (A) n c, .int .i64 (p), .slice (A') n' c', .int .i64 (q), .slice (A2) n2 c2, .slice (A3) n3 c3, .int .i64 (z)] 51))) := (by go_grown : Below w.heap.size w _)
  have s0 : (w.alloc (.cells #[.slice (A) n c, .int .i64 (p), .slice (A') n' c', .int .i64 (q), .slice (A2) n2 c2, .slice (A3) n3 c3, .int .i64 (z)] 51)).heap.size = w.heap.size + 1 := by simp
  clear h h' g j
  have x0 := (X0.out.2 0 _ rfl).1; have x1 := (X0.out.2 1 _ rfl).1; have x2 := (X0.out.2 2 _ rfl).1; have x3 := (X0.out.2 3 _ rfl).1; have x4 := (X0.out.2 4 _ rfl).1; have x5 := (X0.out.2 5 _ rfl).1; have x6 := (X0.out.2 6 _ rfl).1
  go_enter Tryd.func76, Tryd.ntmps76
  go_wp2_with fail
  generalize w.alloc (.cells #[.slice (A) n c, .int .i64 (p), .slice (A') n' c', .int .i64 (q), .slice (A2) n2 c2, .slice (A3) n3 c3, .int .i64 (z)] 51) = w0 at *
  clear x0 x1 x2 x3 x4 x5 x6
  refine (ValidBoth_any H10.out H20.out G0.out J0.out (by omega) (by omega) (by omega) (by omega) hnc).mono ?_
  rintro e w1 ⟨rfl, hb1⟩
  have s1 := hb1.size
  have E1 := Lib.hid (below_step hb1 E0.out (by omega))
  have X1 := Lib.hid (X0.out.below hb1 (by omega))
  have H11 := Lib.hid (H10.out.below hb1 (by omega))
  have H21 := Lib.hid (H20.out.below hb1 (by omega))
  have G1 := Lib.hid (G0.out.below hb1 (by omega))
  have J1 := Lib.hid (J0.out.below hb1 (by omega))
  clear hb1 H10 H20 G0 J0 X0 E0
  have x0 := (X1.out.2 0 _ rfl).1; have x1 := (X1.out.2 1 _ rfl).1; have x2 := (X1.out.2 2 _ rfl).1; have x3 := (X1.out.2 3 _ rfl).1; have x4 := (X1.out.2 4 _ rfl).1; have x5 := (X1.out.2 5 _ rfl).1; have x6 := (X1.out.2 6 _ rfl).1
  cases hv : validB D p S q R Q z
  · go_wp2
    go_ret
    exact ⟨ret_bool (by simp [goodB, hv]), E1.out⟩
  · have HV := Lib.hid hv
    clear hv
    go_wp2_with fail
    refine (hasCalls_any (by omega) (by omega)).mono ?_
    rintro e w2 ⟨rfl, hb2⟩
    have E2 := Lib.hid (below_step hb2 E1.out (by omega))
    clear hb2
    go_wp2
    go_ret
    exact ⟨ret_bool (by rw [goodB, HV.out, Bool.true_and] <;> exact decide_eq_decide.2 (by omega)), E2.out⟩
set_option maxHeartbeats 8000000 in
theorem FlushBoth_x {A A' A2 A3 : Option Addr} {n c n' c' n2 c2 n3 c3 : Nat} {D S R Q : List Int} {p q z : Int} {w : World} {L L' B B' M C U V : Nat} {E : Nat} {a0 a1 a2 : Addr} (hE : Errs w E a0 a1 a2) (hEw : E ≤ w.heap.size) (h : Ints w L B A n D) (h' : Ints w L' B' A' n' S) (g : Ints w M C A2 n2 R) (j : Ints w U V A3 n3 Q) (hB : B ≤ w.heap.size) (hB' : B' ≤ w.heap.size) (hC : C ≤ w.heap.size) (hV : V ≤ w.heap.size) (hc : n ≤ c) (_hc1 : n' ≤ c') (_hc2 : n2 ≤ c2) (hc3 : n3 ≤ c3) (_hn : n ≤ 1048576) (_hn1 : n' ≤ 1048576) (_hn2 : n2 ≤ 1048576) (_hn3 : n3 ≤ 1048576) :
    Calls Tryd.prog 34 #[.agg #[.slice (A) n c, .int .i64 (p), .slice (A') n' c', .int .i64 (q), .slice (A2) n2 c2, .slice (A3) n3 c3, .int .i64 (z)]] w (PostBI (fbOut D p S q R Q z) w) := by
  have HQ := Lib.hid j.len
  have HG := Lib.hid g.len
  have HL := Lib.hid h.len
  have HL' := Lib.hid h'.len
  have HE0 := Lib.hid hE
  have H10 : Hid (Ints ((w.alloc (.cells #[.slice (A) n c, .int .i64 (p), .slice (A') n' c', .int .i64 (q), .slice (A2) n2 c2, .slice (A3) n3 c3, .int .i64 (z)] 51)).alloc (.cells #[.slice none 0 0, .int .i64 0, .slice none 0 0, .int .i64 0, .slice none 0 0, .slice none 0 0, .int .i64 0] 51)) L B A n D) := (h.alloc hB _).alloc (by first | omega | (simp; omega) | (simp; done)) _
  have H20 : Hid (Ints ((w.alloc (.cells #[.slice (A) n c, .int .i64 (p), .slice (A') n' c', .int .i64 (q), .slice (A2) n2 c2, .slice (A3) n3 c3, .int .i64 (z)] 51)).alloc (.cells #[.slice none 0 0, .int .i64 0, .slice none 0 0, .int .i64 0, .slice none 0 0, .slice none 0 0, .int .i64 0] 51)) L' B' A' n' S) := (h'.alloc hB' _).alloc (by first | omega | (simp; omega) | (simp; done)) _
  have G0 : Hid (Ints ((w.alloc (.cells #[.slice (A) n c, .int .i64 (p), .slice (A') n' c', .int .i64 (q), .slice (A2) n2 c2, .slice (A3) n3 c3, .int .i64 (z)] 51)).alloc (.cells #[.slice none 0 0, .int .i64 0, .slice none 0 0, .int .i64 0, .slice none 0 0, .slice none 0 0, .int .i64 0] 51)) M C A2 n2 R) := (g.alloc hC _).alloc (by first | omega | (simp; omega) | (simp; done)) _
  have J0 : Hid (Ints ((w.alloc (.cells #[.slice (A) n c, .int .i64 (p), .slice (A') n' c', .int .i64 (q), .slice (A2) n2 c2, .slice (A3) n3 c3, .int .i64 (z)] 51)).alloc (.cells #[.slice none 0 0, .int .i64 0, .slice none 0 0, .int .i64 0, .slice none 0 0, .slice none 0 0, .int .i64 0] 51)) U V A3 n3 Q) := (j.alloc hV _).alloc (by first | omega | (simp; omega) | (simp; done)) _
  have X0 : Hid (Box ((w.alloc (.cells #[.slice (A) n c, .int .i64 (p), .slice (A') n' c', .int .i64 (q), .slice (A2) n2 c2, .slice (A3) n3 c3, .int .i64 (z)] 51)).alloc (.cells #[.slice none 0 0, .int .i64 0, .slice none 0 0, .int .i64 0, .slice none 0 0, .slice none 0 0, .int .i64 0] 51)) w.heap.size [.slice (A) n c, .int .i64 (p), .slice (A') n' c', .int .i64 (q), .slice (A2) n2 c2, .slice (A3) n3 c3, .int .i64 (z)]) := (Box.new w 51 [.slice (A) n c, .int .i64 (p), .slice (A') n' c', .int .i64 (q), .slice (A2) n2 c2, .slice (A3) n3 c3, .int .i64 (z)]).alloc _
  have R0 : Hid (Box ((w.alloc (.cells #[.slice (A) n c, .int .i64 (p), .slice (A') n' c', .int .i64 (q), .slice (A2) n2 c2, .slice (A3) n3 c3, .int .i64 (z)] 51)).alloc (.cells #[.slice none 0 0, .int .i64 0, .slice none 0 0, .int .i64 0, .slice none 0 0, .slice none 0 0, .int .i64 0] 51)) (w.heap.size + 1) [.slice none 0 0, .int .i64 0, .slice none 0 0, .int .i64 0, .slice none 0 0, .slice none 0 0, .int .i64 0]) := by
    have hx := Box.new (w.alloc (.cells #[.slice (A) n c, .int .i64 (p), .slice (A') n' c', .int .i64 (q), .slice (A2) n2 c2, .slice (A3) n3 c3, .int .i64 (z)] 51)) 51 [.slice none 0 0, .int .i64 0, .slice none 0 0, .int .i64 0, .slice none 0 0, .slice none 0 0, .int .i64 0]
    rw [World.size_alloc] at hx
    exact hx
  have E0 : Hid (Below w.heap.size w ((w.alloc (.cells #[.slice (A) n c, .int .i64 (p), .slice (A') n' c', .int .i64 (q), .slice (A2) n2 c2, .slice (A3) n3 c3, .int .i64 (z)] 51)).alloc (.cells #[.slice none 0 0, .int .i64 0, .slice none 0 0, .int .i64 0, .slice none 0 0, .slice none 0 0, .int .i64 0] 51))) := (by go_grown : Below w.heap.size w _)
  have s0 : (((w.alloc (.cells #[.slice (A) n c, .int .i64 (p), .slice (A') n' c', .int .i64 (q), .slice (A2) n2 c2, .slice (A3) n3 c3, .int .i64 (z)] 51)).alloc (.cells #[.slice none 0 0, .int .i64 0, .slice none 0 0, .int .i64 0, .slice none 0 0, .slice none 0 0, .int .i64 0] 51))).heap.size = w.heap.size + 2 := by simp
  clear h h' g j hE
  have x0 := (X0.out.2 0 _ rfl).1; have x1 := (X0.out.2 1 _ rfl).1; have x2 := (X0.out.2 2 _ rfl).1; have x3 := (X0.out.2 3 _ rfl).1; have x4 := (X0.out.2 4 _ rfl).1; have x5 := (X0.out.2 5 _ rfl).1; have x6 := (X0.out.2 6 _ rfl).1
  go_enter Tryd.func34, Tryd.ntmps34
  go_wp2_with fail
  generalize ((w.alloc (.cells #[.slice (A) n c, .int .i64 (p), .slice (A') n' c', .int .i64 (q), .slice (A2) n2 c2, .slice (A3) n3 c3, .int .i64 (z)] 51)).alloc (.cells #[.slice none 0 0, .int .i64 0, .slice none 0 0, .int .i64 0, .slice none 0 0, .slice none 0 0, .int .i64 0] 51)) = w0 at *
  clear x0 x1 x2 x3 x4 x5 x6
  refine (canGoOn_any H10.out H20.out G0.out J0.out (by omega) (by omega) (by omega) (by omega) hc).mono ?_
  rintro e w1 ⟨rfl, hb1⟩
  have R1 := Lib.hid (R0.out.below hb1 (by omega))
  have s1 := hb1.size
  have E1 := Lib.hid (below_step hb1 E0.out (by omega))
  have X1 := Lib.hid (X0.out.below hb1 (by omega))
  have H11 := Lib.hid (H10.out.below hb1 (by omega))
  have H21 := Lib.hid (H20.out.below hb1 (by omega))
  have G1 := Lib.hid (G0.out.below hb1 (by omega))
  have J1 := Lib.hid (J0.out.below hb1 (by omega))
  clear hb1 H10 H20 G0 J0 X0 E0
  cases hg : goodB D p S q R Q z
  · have HO : Hid (fbOut D p S q R Q z = (Bv.zero, 5)) := by show _ = _; simp [fbOut, hg]
    clear hg
    have r0 := (R1.out.2 0 _ rfl).1; have r1 := (R1.out.2 1 _ rfl).1; have r2 := (R1.out.2 2 _ rfl).1; have r3 := (R1.out.2 3 _ rfl).1; have r4 := (R1.out.2 4 _ rfl).1; have r5 := (R1.out.2 5 _ rfl).1; have r6 := (R1.out.2 6 _ rfl).1
    have g0 := (R1.out.2 0 _ rfl).2; have g1 := (R1.out.2 1 _ rfl).2; have g2 := (R1.out.2 2 _ rfl).2; have g3 := (R1.out.2 3 _ rfl).2; have g4 := (R1.out.2 4 _ rfl).2; have g5 := (R1.out.2 5 _ rfl).2; have g6 := (R1.out.2 6 _ rfl).2
    go_wp2
    refine bodyPost_ret (v := .tuple #[.agg #[.slice none 0 0, .int .i64 0, .slice none 0 0, .int .i64 0, .slice none 0 0, .slice none 0 0, .int .i64 0], .int .i64 5]) (by simp [results, Tryd.results34, go_sem, r0, g0, r1, g1, r2, g2, r3, g3, r4, g4, r5, g5, r6, g6]) rfl ?_
    rw [HO.out]
    refine PostBI.zero ?_
    (repeat (with_reducible refine below_set ?_ (by omega) _))
    exact E1.out
  · have HO : Hid (fbOut D p S q R Q z = (bvOf S R z (fuGo S Q.length D p q.toNat Q), (fuGo S Q.length D p q.toNat Q).st)) := by show _ = _; simp [fbOut, hg]
    obtain ⟨k1, k2, k3, k4, k5⟩ := goodB_start hg
    obtain ⟨q0, rfl⟩ := Int.eq_ofNat_of_zero_le k5
    rw [Int.toNat_natCast] at HO k2 k3
    have hl := validB_len k1
    obtain ⟨l1, l2, l3, l4, hp, _, hz⟩ := hl
    obtain ⟨i1, i2, i3, i4, i5⟩ := fuGo_valid Q.length D p q0 Q k2 k4 (by omega)
    have hn60 : n ≤ 60 := by rw [HL.out]; exact l1
    have hn12 : n' ≤ 12 := by rw [HL'.out]; exact l2
    have hn16 : n2 ≤ 16 := by rw [HG.out]; exact l3
    have hn16' : n3 ≤ 16 := by rw [HQ.out]; exact l4
    have HV := Lib.hid k2
    have HA := Lib.hid k4
    clear hg k1 k2 k4
    have x0 := (X1.out.2 0 _ rfl).1; have x1 := (X1.out.2 1 _ rfl).1; have x2 := (X1.out.2 2 _ rfl).1; have x3 := (X1.out.2 3 _ rfl).1; have x4 := (X1.out.2 4 _ rfl).1; have x5 := (X1.out.2 5 _ rfl).1; have x6 := (X1.out.2 6 _ rfl).1
    go_wp2_with fail
    clear x0 x1 x2 x3 x4 x5 x6
    refine (fileOf_any H11.out H21.out G1.out J1.out (by omega) (by omega) (by omega) (by omega) (by omega) (by omega) (by omega) (by omega) (by unfold okInt; omega) (by unfold okInt; omega)).mono ?_
    rintro e w2 ⟨b, A4, n4, c4, A4', n4', c4', A5, n5, c5, A6, n6, c6, rfl, ⟨hc4, hc4', hc5, hc6⟩, hb2, hbl, hx, h1, h2, h3, h4, ha, ha1, ha2, ha3, ha4, ha5⟩
    have hbw := hx.lt
    have s2 := hb2.size
    have FA := Lib.hid (show FileAt w1.heap.size b A4 n4 c4 A4' n4' c4' D S z p q0 A5 n5 c5 R A6 n6 c6 Q w1.heap.size b w1.heap.size b w1.heap.size b w2 from ⟨hx, ⟨h1, h2, h3, h4⟩, ⟨.inr (Nat.le_refl _), .inr (Nat.le_refl _), .inr (Nat.le_refl _)⟩, ⟨hbl, Nat.le_refl _, Nat.le_refl _, Nat.le_refl _⟩, ⟨by omega, by omega, by omega, s2⟩, ⟨hc4, hc5, hc6⟩, ⟨ha, ha1, ha2, ha3, ha4, ha5⟩⟩)
    have R2 := Lib.hid (R1.out.below hb2 (by omega))
    have E2 := Lib.hid (below_step hb2 E1.out (by omega))
    have HE2 := Lib.hid (HE0.out.below E2.out hEw)
    clear hb2 hx h1 h2 h3 h4 ha ha1 ha2 ha3 ha4 ha5 R1 E1 H11 H21 G1 J1 X1
    have hflush := fflush_any FA.out HE2.out (by omega) HV.out (by omega) (by omega) HA.out
    generalize fuGo S Q.length D p q0 Q = T at *
    have HF := Lib.hid hflush
    have HI1 := Lib.hid i1
    have HI5 := Lib.hid i5
    clear hflush i1 i5
    go_wp2_with fail
    refine HF.out.mono ?_
    rintro e w3 ⟨A7, n7, c7, A8, n8, c8, M7, C7, rfl, ht, hf⟩
    have s3 := ht.size
    have FA3 := Lib.hid hf
    have R3 := Lib.hid (R2.out.turn ht (by omega) (by omega))
    have E3 : Hid (Below w.heap.size w w3) := E2.out.trans (ht.below (by omega) (by omega))
    clear ht hf R2 E2 FA HF HE2
    go_wp2_with fail
    refine (both_any FA3.out.1).mono ?_
    rintro e w4 ⟨rfl, hb4⟩
    have s4 := hb4.size
    obtain ⟨b1, ⟨b2, b3, b4, b5⟩, _, ⟨b6, b7, b8, b9⟩, ⟨b10, b11, b12, b13⟩, ⟨b14, b15, b16⟩, hap⟩ := FA3.out
    have K1 := Lib.hid (b2.below hb4 b10)
    have K2 := Lib.hid (b3.below hb4 (by have := b1.lt; omega))
    have K3 := Lib.hid (b4.below hb4 b11)
    have K4 := Lib.hid (b5.below hb4 b12)
    have HAP := Lib.hid hap
    have R4 := Lib.hid (R3.out.below hb4 (by omega))
    have E4 := Lib.hid (below_step hb4 E3.out (by omega))
    have HE4 := Lib.hid (HE0.out.below E4.out hEw)
    clear hb4 R3 E3 FA3 b1 b2 b3 b4 b5 hap
    go_wp2_with fail
    refine (endOf_any HE4.out HI5.out).mono ?_
    rintro e w5 ⟨rfl, rfl⟩
    have r0 := (R4.out.2 0 _ rfl).1; have r1 := (R4.out.2 1 _ rfl).1; have r2 := (R4.out.2 2 _ rfl).1; have r3 := (R4.out.2 3 _ rfl).1; have r4 := (R4.out.2 4 _ rfl).1; have r5 := (R4.out.2 5 _ rfl).1; have r6 := (R4.out.2 6 _ rfl).1
    have g0 := (R4.out.2 0 _ rfl).2; have g1 := (R4.out.2 1 _ rfl).2; have g2 := (R4.out.2 2 _ rfl).2; have g3 := (R4.out.2 3 _ rfl).2; have g4 := (R4.out.2 4 _ rfl).2; have g5 := (R4.out.2 5 _ rfl).2; have g6 := (R4.out.2 6 _ rfl).2
    go_wp2
    refine bodyPost_ret (v := .tuple #[.agg #[.slice (A7) n7 c7, .int .i64 (T.p), .slice (A4') n4' c4', .int .i64 ((T.q : Int)), .slice (A5) n5 c5, .slice (A8) n8 c8, .int .i64 (z)], .int .i64 T.st]) (by simp [results, Tryd.results34, go_sem, r0, g0, r1, g1, r2, g2, r3, g3, r4, g4, r5, g5, r6, g6]) rfl ?_
    rw [HO.out]
    obtain ⟨_, _, _, hp9, hq9⟩ := validD_iff.1 HI1.out
    refine ⟨_, _, _, _, _, _, _, _, _, _, _, _, rfl, ⟨b14, hc4', b15, b16⟩, ?_, ⟨⟨⟨?_, ?_, HAP.out.1, by unfold okInt; show _ ≤ T.p ∧ T.p ≤ _; omega, by unfold okInt; show _ ≤ (T.q : Int) ∧ (T.q : Int) ≤ _; omega⟩, ?_, HAP.out.2.1, HAP.out.2.2.1, by unfold okInt; show _ ≤ z ∧ z ≤ _; omega⟩, ?_, HAP.out.2.2.2.1, HAP.out.2.2.2.2.1, HAP.out.2.2.2.2.2⟩⟩
    · (repeat (with_reducible refine below_set ?_ (by omega) _))
      exact E4.out
    · simp only [World.size_setCell]
      refine Ints.more (lo := M7) (hi := C7) ?_ (by omega) (by omega)
      (repeat (with_reducible refine Ints.set_ ?_ (by omega) _))
      exact K1.out
    · simp only [World.size_setCell]
      refine Ints.more (lo := w1.heap.size) (hi := b) ?_ (by omega) (by omega)
      (repeat (with_reducible refine Ints.set_ ?_ (by omega) _))
      exact K2.out
    · simp only [World.size_setCell]
      refine Ints.more (lo := w1.heap.size) (hi := b) ?_ (by omega) (by omega)
      (repeat (with_reducible refine Ints.set_ ?_ (by omega) _))
      exact K3.out
    · simp only [World.size_setCell]
      refine Ints.more (lo := w1.heap.size) (hi := b) ?_ (by omega) (by omega)
      (repeat (with_reducible refine Ints.set_ ?_ (by omega) _))
      exact K4.out
end Go.Proofs.YtphkkalkajleiaaDoor
