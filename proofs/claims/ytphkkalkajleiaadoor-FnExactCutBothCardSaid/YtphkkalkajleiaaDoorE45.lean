/- The exact law of CutBoth: for all arguments the function answers as its model, and writes into none. -/
import Derived.Test.YtphkkalkajleiaaDoorLawBase
import Derived.Test.YtphkkalkajleiaaDoorL9
import Derived.Test.YtphkkalkajleiaaDoorS4d
import Derived.Test.YtphkkalkajleiaaDoorS1i
import Derived.Test.YtphkkalkajleiaaDoorC4d
import Derived.Test.YtphkkalkajleiaaDoorER3
import Derived.Test.YtphkkalkajleiaaDoorCards
import Derived.Test.YtphkkalkajleiaaDoorTie
set_option maxRecDepth 10000
namespace Go.Proofs.YtphkkalkajleiaaDoor
open Go.ChangeShapes Go.WideShapes Go.ChangeAt Go.RowKit
set_option linter.unusedSimpArgs false
set_option linter.unusedVariables false

/-- What the model's cut of a file gives. -/
def SCBPost (A : Option Addr) (n M C : Nat) (A' : Option Addr) (n' c' : Nat) (A2 : Option Addr) (n2 c2 : Nat) (z : Int) (A3 : Option Addr) (n3 U V m : Nat) (T : Fv) (w : World) (e : Ending) (w' : World) : Prop :=
  ∃ A1 n1 c1 pp Ai ni ci A5 n5 c5 M1 C1 M5 C5, e = .returned (.tuple #[.agg #[.slice (A1) n1 c1, .int .i64 (pp), .slice (A') n' c', .int .i64 ((T.q : Int)), .slice (Ai) ni ci, .slice (A5) n5 c5, .int .i64 (z)], .int .i64 T.st]) ∧ (n1 ≤ c1 ∧ n5 ≤ c5) ∧ Below w.heap.size w w' ∧ Ints w' M5 C5 A5 n5 T.r ∧ (C1 ≤ w'.heap.size ∧ C5 ≤ w'.heap.size) ∧
    ((A1 = A ∧ n1 = n ∧ M1 = M ∧ C1 = C) ∨ w.heap.size ≤ M1) ∧ ((A5 = A3 ∧ n5 = n3 ∧ M5 = U ∧ C5 = V) ∨ w.heap.size ≤ M5) ∧ Apart A5 n5 A1 n1 ∧ ((T.st = 0 ∧ pp = T.p - (n2 : Int) ∧ ni = 0 ∧ ci = 0 ∧ n1 = m ∧ Ints w' M1 C1 A1 n1 (cutL T.d m)) ∨ (T.st ≠ 0 ∧ pp = T.p ∧ Ai = A2 ∧ ni = n2 ∧ ci = c2 ∧ Ints w' M1 C1 A1 n1 T.d))
set_option maxHeartbeats 8000000 in
theorem cutBoth_any {A A' A2 A3 : Option Addr} {n c n' c' n2 c2 n3 c3 q0 : Nat} {D S Q : List Int} {p z : Int} {w : World} {L' B B' M U V : Nat} (h : Ints w M B A n D) (h' : Ints w L' B' A' n' S) (j : Ints w U V A3 n3 Q) (hB : B ≤ w.heap.size) (hB' : B' ≤ w.heap.size) (hV : V ≤ w.heap.size) (hap : Apart A3 n3 A n)
    (hnc : n ≤ c) (hn3 : n3 ≤ c3) (hv : validD D p S (q0 : Int) = true) (hq : q0 ≤ 900) (hQ : Q.length ≤ 16) (hQ2 : allB Q 0 255 = true) {m : Nat} (hm : m ≤ 60) (hn260 : n2 ≤ 60) (hdl : (fuGo S Q.length D p q0 Q).d.length ≤ 60) (hpT : 0 ≤ (fuGo S Q.length D p q0 Q).p ∧ (fuGo S Q.length D p q0 Q).p ≤ 60) :
    Calls Tryd.prog 88 #[.agg #[.slice (A) n c, .int .i64 (p), .slice (A') n' c', .int .i64 ((q0 : Int)), .slice (A2) n2 c2, .slice (A3) n3 c3, .int .i64 (z)], .int .i64 m] w (SCBPost A n M B A' n' c' A2 n2 c2 z A3 n3 U V m (fuGo S Q.length D p q0 Q) w) := by
  obtain ⟨T, hT⟩ : ∃ T, fuGo S Q.length D p q0 Q = T := ⟨_, rfl⟩
  rw [hT]
  rw [hT] at hdl hpT
  have H10 : Hid (Ints ((w.alloc (.cells #[.slice (A) n c, .int .i64 (p), .slice (A') n' c', .int .i64 ((q0 : Int)), .slice (A2) n2 c2, .slice (A3) n3 c3, .int .i64 (z)] 51)).alloc (.cells #[.slice none 0 0, .int .i64 0, .slice none 0 0, .int .i64 0, .slice none 0 0, .slice none 0 0, .int .i64 0] 51)) M B A n D) := (h.alloc hB _).alloc (by first | omega | (simp; omega) | (simp; done)) _
  have H20 : Hid (Ints ((w.alloc (.cells #[.slice (A) n c, .int .i64 (p), .slice (A') n' c', .int .i64 ((q0 : Int)), .slice (A2) n2 c2, .slice (A3) n3 c3, .int .i64 (z)] 51)).alloc (.cells #[.slice none 0 0, .int .i64 0, .slice none 0 0, .int .i64 0, .slice none 0 0, .slice none 0 0, .int .i64 0] 51)) L' B' A' n' S) := (h'.alloc hB' _).alloc (by first | omega | (simp; omega) | (simp; done)) _
  have J0 : Hid (Ints ((w.alloc (.cells #[.slice (A) n c, .int .i64 (p), .slice (A') n' c', .int .i64 ((q0 : Int)), .slice (A2) n2 c2, .slice (A3) n3 c3, .int .i64 (z)] 51)).alloc (.cells #[.slice none 0 0, .int .i64 0, .slice none 0 0, .int .i64 0, .slice none 0 0, .slice none 0 0, .int .i64 0] 51)) U V A3 n3 Q) := (j.alloc hV _).alloc (by first | omega | (simp; omega) | (simp; done)) _
  have X0 : Hid (Box ((w.alloc (.cells #[.slice (A) n c, .int .i64 (p), .slice (A') n' c', .int .i64 ((q0 : Int)), .slice (A2) n2 c2, .slice (A3) n3 c3, .int .i64 (z)] 51)).alloc (.cells #[.slice none 0 0, .int .i64 0, .slice none 0 0, .int .i64 0, .slice none 0 0, .slice none 0 0, .int .i64 0] 51)) w.heap.size [.slice (A) n c, .int .i64 (p), .slice (A') n' c', .int .i64 ((q0 : Int)), .slice (A2) n2 c2, .slice (A3) n3 c3, .int .i64 (z)]) := (Box.new w 51 [.slice (A) n c, .int .i64 (p), .slice (A') n' c', .int .i64 ((q0 : Int)), .slice (A2) n2 c2, .slice (A3) n3 c3, .int .i64 (z)]).alloc _
  have R0 : Hid (Box ((w.alloc (.cells #[.slice (A) n c, .int .i64 (p), .slice (A') n' c', .int .i64 ((q0 : Int)), .slice (A2) n2 c2, .slice (A3) n3 c3, .int .i64 (z)] 51)).alloc (.cells #[.slice none 0 0, .int .i64 0, .slice none 0 0, .int .i64 0, .slice none 0 0, .slice none 0 0, .int .i64 0] 51)) (w.heap.size + 1) [.slice none 0 0, .int .i64 0, .slice none 0 0, .int .i64 0, .slice none 0 0, .slice none 0 0, .int .i64 0]) := by
    have hx := Box.new (w.alloc (.cells #[.slice (A) n c, .int .i64 (p), .slice (A') n' c', .int .i64 ((q0 : Int)), .slice (A2) n2 c2, .slice (A3) n3 c3, .int .i64 (z)] 51)) 51 [.slice none 0 0, .int .i64 0, .slice none 0 0, .int .i64 0, .slice none 0 0, .slice none 0 0, .int .i64 0]
    rw [World.size_alloc] at hx
    exact hx
  have E0 : Hid (Below w.heap.size w ((w.alloc (.cells #[.slice (A) n c, .int .i64 (p), .slice (A') n' c', .int .i64 ((q0 : Int)), .slice (A2) n2 c2, .slice (A3) n3 c3, .int .i64 (z)] 51)).alloc (.cells #[.slice none 0 0, .int .i64 0, .slice none 0 0, .int .i64 0, .slice none 0 0, .slice none 0 0, .int .i64 0] 51))) := (by go_grown : Below w.heap.size w _)
  have s0 : (((w.alloc (.cells #[.slice (A) n c, .int .i64 (p), .slice (A') n' c', .int .i64 ((q0 : Int)), .slice (A2) n2 c2, .slice (A3) n3 c3, .int .i64 (z)] 51)).alloc (.cells #[.slice none 0 0, .int .i64 0, .slice none 0 0, .int .i64 0, .slice none 0 0, .slice none 0 0, .int .i64 0] 51))).heap.size = w.heap.size + 2 := by simp
  clear h h' j
  have x0 := (X0.out.2 0 _ rfl).1; have x1 := (X0.out.2 1 _ rfl).1; have x2 := (X0.out.2 2 _ rfl).1; have x3 := (X0.out.2 3 _ rfl).1; have x4 := (X0.out.2 4 _ rfl).1; have x5 := (X0.out.2 5 _ rfl).1; have x6 := (X0.out.2 6 _ rfl).1
  go_enter Tryd.func88, Tryd.ntmps88
  go_wp2_with fail
  generalize ((w.alloc (.cells #[.slice (A) n c, .int .i64 (p), .slice (A') n' c', .int .i64 ((q0 : Int)), .slice (A2) n2 c2, .slice (A3) n3 c3, .int .i64 (z)] 51)).alloc (.cells #[.slice none 0 0, .int .i64 0, .slice none 0 0, .int .i64 0, .slice none 0 0, .slice none 0 0, .int .i64 0] 51)) = w0 at *
  clear x0 x1 x2 x3 x4 x5 x6
  have hflush := flushBoth_any (z := z) (c' := c') (A2 := A2) (n2 := n2) (c2 := c2) H10.out H20.out J0.out (by omega) (by omega) (by omega) hap hnc hn3 hv hq hQ hQ2
  rw [hT] at hflush
  refine hflush.mono ?_
  rintro e w1 ⟨A5, n5, c5, A6, n6, c6, M5, C5, M6, C6, rfl, ⟨hc5, hc6⟩, hb1, ⟨hi5, hi6⟩, ⟨hC5, hC6⟩, hor5, hor6, hap1⟩
  have s1 := hb1.size
  have X1 := Lib.hid (X0.out.below hb1 (by omega))
  have R1 := Lib.hid (R0.out.below hb1 (by omega))
  have E1 := Lib.hid (below_step hb1 E0.out (by omega))
  have D1 := Lib.hid hi5
  have D1r := Lib.hid hi6
  have HAP := Lib.hid hap1
  have hor5' : (A5 = A ∧ n5 = n ∧ M5 = M ∧ C5 = B) ∨ w.heap.size + 2 ≤ M5 := hor5.imp id fun h => by omega
  have hor6' : (A6 = A3 ∧ n6 = n3 ∧ M6 = U ∧ C6 = V) ∨ w.heap.size + 2 ≤ M6 := hor6.imp id fun h => by omega
  have hf5 : (w.heap.size < M5 ∨ C5 ≤ w.heap.size) ∧ (w.heap.size + 1 < M5 ∨ C5 ≤ w.heap.size + 1) := by rcases hor5' with ⟨_, _, _, rfl⟩ | h <;> omega
  have hf6 : (w.heap.size < M6 ∨ C6 ≤ w.heap.size) ∧ (w.heap.size + 1 < M6 ∨ C6 ≤ w.heap.size + 1) := by rcases hor6' with ⟨_, _, _, rfl⟩ | h <;> omega
  clear hb1 hi5 hi6 hor5 hor6 X0 R0 E0 H10 H20 J0 hap1 hflush hv hQ2 hT
  have hw : IntKind.i64.wrap (T.p - (n2 : Int)) = T.p - (n2 : Int) := IntWalk.i64_in _ (by omega)
  have x0 := (X1.out.2 0 _ rfl).1; have x1 := (X1.out.2 1 _ rfl).1; have x2 := (X1.out.2 2 _ rfl).1; have x3 := (X1.out.2 3 _ rfl).1; have x4 := (X1.out.2 4 _ rfl).1; have x5 := (X1.out.2 5 _ rfl).1; have x6 := (X1.out.2 6 _ rfl).1
  have f0 := (X1.out.2 0 _ rfl).2; have f1 := (X1.out.2 1 _ rfl).2; have f2 := (X1.out.2 2 _ rfl).2; have f3 := (X1.out.2 3 _ rfl).2; have f4 := (X1.out.2 4 _ rfl).2; have f5 := (X1.out.2 5 _ rfl).2; have f6 := (X1.out.2 6 _ rfl).2
  go_upto_region 2 with (fail)
  clear x0 x1 x2 x3 x4 x5 x6
  clear f0 f1 f2 f3 f4 f5 f6
  refine wp_renameW (fun w2 => Hid (Box w2 w.heap.size [.slice (A5) n5 c5, .int .i64 (T.p), .slice (A') n' c', .int .i64 ((T.q : Int)), .slice (A2) n2 c2, .slice (A6) n6 c6, .int .i64 (z)]) ∧ Hid (Box w2 (w.heap.size + 1) [.slice none 0 0, .int .i64 0, .slice none 0 0, .int .i64 0, .slice none 0 0, .slice none 0 0, .int .i64 0]) ∧ Hid (Below w.heap.size w w2) ∧ Hid (Ints w2 M5 C5 A5 n5 T.d) ∧ Hid (Ints w2 M6 C6 A6 n6 T.r) ∧ w1.heap.size ≤ w2.heap.size) ⟨?_, ?_, ?_, ?_, ?_, ?_⟩ ?_
  · have hx := (((((((X1.out.put (i := 0) (by simp) (.slice A5 n5 c5)).put (i := 1) (by simp) (.int .i64 T.p)).put (i := 2) (by simp) (.slice A' n' c')).put (i := 3) (by simp) (.int .i64 (T.q : Int))).put (i := 4) (by simp) (.slice A2 n2 c2)).put (i := 5) (by simp) (.slice A6 n6 c6)).put (i := 6) (by simp) (.int .i64 z))
    show Box _ _ _
    simpa using hx
  · show Box _ _ _
    (repeat (with_reducible refine Box.set_ ?_ (by omega) _))
    exact R1.out
  · show Below _ _ _
    (repeat (with_reducible refine below_set ?_ (by omega) _))
    exact E1.out
  · show Ints _ _ _ _ _ _
    (repeat (with_reducible refine Ints.set_ ?_ (by omega) _))
    exact D1.out
  · show Ints _ _ _ _ _ _
    (repeat (with_reducible refine Ints.set_ ?_ (by omega) _))
    exact D1r.out
  · simp only [World.size_setCell]; omega
  clear X1 R1 E1 D1 D1r
  rintro w2 ⟨X2, R2, E2, D2, D2r, s2⟩
  by_cases hst : T.st = 0
  · have hn5 : n5 ≤ 60 := by have h1 := D2.out.len; omega
    have HST := Lib.hid hst
    have gx := X2.out.lt
    have gr := R2.out.lt
    rw [hst]
    clear hst
    have x0 := (X2.out.2 0 _ rfl).1; have x1 := (X2.out.2 1 _ rfl).1; have x2 := (X2.out.2 2 _ rfl).1; have x3 := (X2.out.2 3 _ rfl).1; have x4 := (X2.out.2 4 _ rfl).1; have x5 := (X2.out.2 5 _ rfl).1; have x6 := (X2.out.2 6 _ rfl).1
    have f0 := (X2.out.2 0 _ rfl).2; have f1 := (X2.out.2 1 _ rfl).2; have f2 := (X2.out.2 2 _ rfl).2; have f3 := (X2.out.2 3 _ rfl).2; have f4 := (X2.out.2 4 _ rfl).2; have f5 := (X2.out.2 5 _ rfl).2; have f6 := (X2.out.2 6 _ rfl).2
    go_upto_region 6 with (fail)
    clear x0 x1 x2 x3 x4 x5 x6
    clear f0 f1 f2 f3 f4 f5 f6
    refine wp_renameW (fun w3 => Hid (Box w3 w.heap.size [.slice (A5) n5 c5, .int .i64 (T.p - (n2 : Int)), .slice (A') n' c', .int .i64 ((T.q : Int)), .slice (some ⟨w2.heap.size, 0, none⟩) 0 0, .slice (A6) n6 c6, .int .i64 (z)]) ∧ Hid (Box w3 (w.heap.size + 1) [.slice none 0 0, .int .i64 0, .slice none 0 0, .int .i64 0, .slice none 0 0, .slice none 0 0, .int .i64 0]) ∧ Hid (Below w.heap.size w w3) ∧ Hid (Ints w3 M5 C5 A5 n5 T.d) ∧ Hid (Ints w3 M6 C6 A6 n6 T.r) ∧ w2.heap.size ≤ w3.heap.size) ⟨?_, ?_, ?_, ?_, ?_, ?_⟩ ?_
    · have hx := ((X2.out.put (i := 1) (by simp) (.int .i64 (T.p - (n2 : Int)))).put (i := 4) (by simp) (.slice (some ⟨w2.heap.size, 0, none⟩) 0 0)).alloc (.cells #[] 3)
      show Box _ _ _
      simpa using hx
    · show Box _ _ _
      refine Box.alloc ?_ _
      (repeat (with_reducible refine Box.set_ ?_ (by omega) _))
      exact R2.out
    · show Below _ _ _
      refine Below.alloc ?_ (by simp only [World.size_setCell]; omega) _
      (repeat (with_reducible refine below_set ?_ (by omega) _))
      exact E2.out
    · show Ints _ _ _ _ _ _
      refine Ints.alloc ?_ (by simp only [World.size_setCell]; omega) _
      (repeat (with_reducible refine Ints.set_ ?_ (by omega) _))
      exact D2.out
    · show Ints _ _ _ _ _ _
      refine Ints.alloc ?_ (by simp only [World.size_setCell]; omega) _
      (repeat (with_reducible refine Ints.set_ ?_ (by omega) _))
      exact D2r.out
    · simp only [World.size_setCell, World.size_alloc]; omega
    clear X2 R2 E2 D2 D2r
    rintro w3 ⟨X3, R3, E3, D3, D3r, s3⟩
    have x0 := (X3.out.2 0 _ rfl).1; have x1 := (X3.out.2 1 _ rfl).1; have x2 := (X3.out.2 2 _ rfl).1; have x3 := (X3.out.2 3 _ rfl).1; have x4 := (X3.out.2 4 _ rfl).1; have x5 := (X3.out.2 5 _ rfl).1; have x6 := (X3.out.2 6 _ rfl).1
    go_wp2_with fail
    clear x0 x1 x2 x3 x4 x5 x6
    refine (sCut_any D3.out (by omega) (by omega) hm hc5).mono ?_
    rintro e w4 ⟨v5, rfl, hb4, hown4⟩
    obtain ⟨A7, c7, rfl, hc7, hi7⟩ := hown4.ints (cutL_ok D3.out.ok)
    rw [cutL_len] at hc7 hi7 ⊢
    clear hown4
    have s4 := hb4.size
    have X4 := Lib.hid (X3.out.below hb4 (by omega))
    have R4 := Lib.hid (R3.out.below hb4 (by omega))
    have E4 := Lib.hid (below_step hb4 E3.out (by omega))
    have D4 := Lib.hid hi7
    have D4r := Lib.hid (D3r.out.below hb4 (by omega))
    have AP4 : Hid (Apart A6 n6 A7 m) := Apart.of_le D3r.out hi7 (by omega)
    clear hb4 hi7 X3 R3 E3 D3 D3r HAP
    have x0 := (X4.out.2 0 _ rfl).1; have x1 := (X4.out.2 1 _ rfl).1; have x2 := (X4.out.2 2 _ rfl).1; have x3 := (X4.out.2 3 _ rfl).1; have x4 := (X4.out.2 4 _ rfl).1; have x5 := (X4.out.2 5 _ rfl).1; have x6 := (X4.out.2 6 _ rfl).1
    have f0 := (X4.out.2 0 _ rfl).2; have f1 := (X4.out.2 1 _ rfl).2; have f2 := (X4.out.2 2 _ rfl).2; have f3 := (X4.out.2 3 _ rfl).2; have f4 := (X4.out.2 4 _ rfl).2; have f5 := (X4.out.2 5 _ rfl).2; have f6 := (X4.out.2 6 _ rfl).2
    go_upto_region 7 with (fail)
    clear x0 x1 x2 x3 x4 x5 x6
    clear f0 f1 f2 f3 f4 f5 f6
    refine wp_renameW (fun w5 => Hid (Box w5 w.heap.size [.slice (A7) m c7, .int .i64 (T.p - (n2 : Int)), .slice (A') n' c', .int .i64 ((T.q : Int)), .slice (some ⟨w2.heap.size, 0, none⟩) 0 0, .slice (A6) n6 c6, .int .i64 (z)]) ∧ Hid (Box w5 (w.heap.size + 1) [.slice none 0 0, .int .i64 0, .slice none 0 0, .int .i64 0, .slice none 0 0, .slice none 0 0, .int .i64 0]) ∧ Hid (Below w.heap.size w w5) ∧ Hid (Ints w5 w3.heap.size w4.heap.size A7 m (cutL T.d m)) ∧ Hid (Ints w5 M6 C6 A6 n6 T.r) ∧ w5.heap.size = w4.heap.size) ⟨?_, ?_, ?_, ?_, ?_, ?_⟩ ?_
    · have hx := X4.out.put (i := 0) (by simp) (.slice A7 m c7)
      show Box _ _ _
      simpa using hx
    · show Box _ _ _
      (repeat (with_reducible refine Box.set_ ?_ (by omega) _))
      exact R4.out
    · show Below _ _ _
      (repeat (with_reducible refine below_set ?_ (by omega) _))
      exact E4.out
    · show Ints _ _ _ _ _ _
      (repeat (with_reducible refine Ints.set_ ?_ (by omega) _))
      exact D4.out
    · show Ints _ _ _ _ _ _
      (repeat (with_reducible refine Ints.set_ ?_ (by omega) _))
      exact D4r.out
    · simp only [World.size_setCell, World.size_alloc]
    clear X4 R4 E4 D4 D4r
    rintro w5 ⟨X5, R5, E5, D5, D5r, s5⟩
    have x0 := (X5.out.2 0 _ rfl).1; have x1 := (X5.out.2 1 _ rfl).1; have x2 := (X5.out.2 2 _ rfl).1; have x3 := (X5.out.2 3 _ rfl).1; have x4 := (X5.out.2 4 _ rfl).1; have x5 := (X5.out.2 5 _ rfl).1; have x6 := (X5.out.2 6 _ rfl).1
    have r0 := (R5.out.2 0 _ rfl).1; have r1 := (R5.out.2 1 _ rfl).1; have r2 := (R5.out.2 2 _ rfl).1; have r3 := (R5.out.2 3 _ rfl).1; have r4 := (R5.out.2 4 _ rfl).1; have r5 := (R5.out.2 5 _ rfl).1; have r6 := (R5.out.2 6 _ rfl).1
    have g0 := (R5.out.2 0 _ rfl).2; have g1 := (R5.out.2 1 _ rfl).2; have g2 := (R5.out.2 2 _ rfl).2; have g3 := (R5.out.2 3 _ rfl).2; have g4 := (R5.out.2 4 _ rfl).2; have g5 := (R5.out.2 5 _ rfl).2; have g6 := (R5.out.2 6 _ rfl).2
    go_wp2
    refine bodyPost_ret (v := .tuple #[.agg #[.slice (A7) m c7, .int .i64 (T.p - (n2 : Int)), .slice (A') n' c', .int .i64 ((T.q : Int)), .slice (some ⟨w2.heap.size, 0, none⟩) 0 0, .slice (A6) n6 c6, .int .i64 (z)], .int .i64 0]) (by simp [results, Tryd.results88, go_sem, r0, g0, r1, g1, r2, g2, r3, g3, r4, g4, r5, g5, r6, g6]) rfl ?_
    have hst := HST.out
    unfold SCBPost
    rw [hst]
    refine ⟨A7, m, c7, _, _, 0, 0, A6, n6, c6, w3.heap.size, w4.heap.size, M6, C6, rfl, ⟨hc7, hc6⟩, ?_, ?_, ⟨by simp only [World.size_setCell]; omega, by simp only [World.size_setCell]; omega⟩, .inr (by omega), ?_, AP4.out, .inl ⟨rfl, rfl, rfl, rfl, rfl, ?_⟩⟩
    · (repeat (with_reducible refine below_set ?_ (by omega) _))
      exact E5.out
    · (repeat (with_reducible refine Ints.set_ ?_ (by omega) _))
      exact D5r.out
    · rcases hor6' with h | h
      · exact .inl h
      · exact .inr (by omega)
    · (repeat (with_reducible refine Ints.set_ ?_ (by omega) _))
      exact D5.out
  · have hne : (T.st != 0) = true := by simpa using hst
    have HNE := Lib.hid hst
    clear hst
    have x0 := (X2.out.2 0 _ rfl).1; have x1 := (X2.out.2 1 _ rfl).1; have x2 := (X2.out.2 2 _ rfl).1; have x3 := (X2.out.2 3 _ rfl).1; have x4 := (X2.out.2 4 _ rfl).1; have x5 := (X2.out.2 5 _ rfl).1; have x6 := (X2.out.2 6 _ rfl).1
    have r0 := (R2.out.2 0 _ rfl).1; have r1 := (R2.out.2 1 _ rfl).1; have r2 := (R2.out.2 2 _ rfl).1; have r3 := (R2.out.2 3 _ rfl).1; have r4 := (R2.out.2 4 _ rfl).1; have r5 := (R2.out.2 5 _ rfl).1; have r6 := (R2.out.2 6 _ rfl).1
    have g0 := (R2.out.2 0 _ rfl).2; have g1 := (R2.out.2 1 _ rfl).2; have g2 := (R2.out.2 2 _ rfl).2; have g3 := (R2.out.2 3 _ rfl).2; have g4 := (R2.out.2 4 _ rfl).2; have g5 := (R2.out.2 5 _ rfl).2; have g6 := (R2.out.2 6 _ rfl).2
    go_wp2
    refine bodyPost_ret (v := .tuple #[.agg #[.slice (A5) n5 c5, .int .i64 (T.p), .slice (A') n' c', .int .i64 ((T.q : Int)), .slice (A2) n2 c2, .slice (A6) n6 c6, .int .i64 (z)], .int .i64 T.st]) (by simp [results, Tryd.results88, go_sem, r0, g0, r1, g1, r2, g2, r3, g3, r4, g4, r5, g5, r6, g6]) rfl ?_
    refine ⟨A5, n5, c5, _, A2, n2, c2, A6, n6, c6, M5, C5, M6, C6, rfl, ⟨hc5, hc6⟩, ?_, ?_, ⟨by simp only [World.size_setCell]; omega, by simp only [World.size_setCell]; omega⟩, ?_, ?_, HAP.out, .inr ⟨HNE.out, rfl, rfl, rfl, rfl, ?_⟩⟩
    · (repeat (with_reducible refine below_set ?_ (by omega) _))
      exact E2.out
    · (repeat (with_reducible refine Ints.set_ ?_ (by omega) _))
      exact D2r.out
    · rcases hor5' with h | h
      · exact .inl h
      · exact .inr (by omega)
    · rcases hor6' with h | h
      · exact .inl h
      · exact .inr (by omega)
    · (repeat (with_reducible refine Ints.set_ ?_ (by omega) _))
      exact D2.out
set_option maxHeartbeats 8000000 in
theorem SCutBoth_x {A A' A2 A3 : Option Addr} {n c n' c' n2 c2 n3 c3 : Nat} {D S R Q : List Int} {p q z : Int} {w : World} {L L' B B' M C U V : Nat} (h : Ints w L B A n D) (h' : Ints w L' B' A' n' S) (g : Ints w M C A2 n2 R) (j : Ints w U V A3 n3 Q) (hB : B ≤ w.heap.size) (hB' : B' ≤ w.heap.size) (hC : C ≤ w.heap.size) (hV : V ≤ w.heap.size) {N : Int} (hc : n ≤ c) (_hc1 : n' ≤ c') (_hc2 : n2 ≤ c2) (hc3 : n3 ≤ c3) (_hn : n ≤ 1048576) (_hn1 : n' ≤ 1048576) (_hn2 : n2 ≤ 1048576) (_hn3 : n3 ≤ 1048576) (_hN : okInt N) :
    Calls Tryd.prog 45 #[.agg #[.slice (A) n c, .int .i64 (p), .slice (A') n' c', .int .i64 (q), .slice (A2) n2 c2, .slice (A3) n3 c3, .int .i64 (z)], .int .i64 N] w (PostBI (cbOut D p S q R Q z N) w) := by
  have HQ := Lib.hid j.len
  have HG := Lib.hid g.len
  have HL := Lib.hid h.len
  have HL' := Lib.hid h'.len
  have H10 : Hid (Ints ((w.alloc (.cells #[.slice (A) n c, .int .i64 (p), .slice (A') n' c', .int .i64 (q), .slice (A2) n2 c2, .slice (A3) n3 c3, .int .i64 (z)] 51)).alloc (.cells #[.slice none 0 0, .int .i64 0, .slice none 0 0, .int .i64 0, .slice none 0 0, .slice none 0 0, .int .i64 0] 51)) L B A n D) := (h.alloc hB _).alloc (by first | omega | (simp; omega) | (simp; done)) _
  have H20 : Hid (Ints ((w.alloc (.cells #[.slice (A) n c, .int .i64 (p), .slice (A') n' c', .int .i64 (q), .slice (A2) n2 c2, .slice (A3) n3 c3, .int .i64 (z)] 51)).alloc (.cells #[.slice none 0 0, .int .i64 0, .slice none 0 0, .int .i64 0, .slice none 0 0, .slice none 0 0, .int .i64 0] 51)) L' B' A' n' S) := (h'.alloc hB' _).alloc (by first | omega | (simp; omega) | (simp; done)) _
  have G0 : Hid (Ints ((w.alloc (.cells #[.slice (A) n c, .int .i64 (p), .slice (A') n' c', .int .i64 (q), .slice (A2) n2 c2, .slice (A3) n3 c3, .int .i64 (z)] 51)).alloc (.cells #[.slice none 0 0, .int .i64 0, .slice none 0 0, .int .i64 0, .slice none 0 0, .slice none 0 0, .int .i64 0] 51)) M C A2 n2 R) := (g.alloc hC _).alloc (by first | omega | (simp; omega) | (simp; done)) _
  have J0 : Hid (Ints ((w.alloc (.cells #[.slice (A) n c, .int .i64 (p), .slice (A') n' c', .int .i64 (q), .slice (A2) n2 c2, .slice (A3) n3 c3, .int .i64 (z)] 51)).alloc (.cells #[.slice none 0 0, .int .i64 0, .slice none 0 0, .int .i64 0, .slice none 0 0, .slice none 0 0, .int .i64 0] 51)) U V A3 n3 Q) := (j.alloc hV _).alloc (by first | omega | (simp; omega) | (simp; done)) _
  have X0 : Hid (Box ((w.alloc (.cells #[.slice (A) n c, .int .i64 (p), .slice (A') n' c', .int .i64 (q), .slice (A2) n2 c2, .slice (A3) n3 c3, .int .i64 (z)] 51)).alloc (.cells #[.slice none 0 0, .int .i64 0, .slice none 0 0, .int .i64 0, .slice none 0 0, .slice none 0 0, .int .i64 0] 51)) w.heap.size [.slice (A) n c, .int .i64 (p), .slice (A') n' c', .int .i64 (q), .slice (A2) n2 c2, .slice (A3) n3 c3, .int .i64 (z)]) := (Box.new w 51 [.slice (A) n c, .int .i64 (p), .slice (A') n' c', .int .i64 (q), .slice (A2) n2 c2, .slice (A3) n3 c3, .int .i64 (z)]).alloc _
  have R0 : Hid (Box ((w.alloc (.cells #[.slice (A) n c, .int .i64 (p), .slice (A') n' c', .int .i64 (q), .slice (A2) n2 c2, .slice (A3) n3 c3, .int .i64 (z)] 51)).alloc (.cells #[.slice none 0 0, .int .i64 0, .slice none 0 0, .int .i64 0, .slice none 0 0, .slice none 0 0, .int .i64 0] 51)) (w.heap.size + 1) [.slice none 0 0, .int .i64 0, .slice none 0 0, .int .i64 0, .slice none 0 0, .slice none 0 0, .int .i64 0]) := by
    have hx := Box.new (w.alloc (.cells #[.slice (A) n c, .int .i64 (p), .slice (A') n' c', .int .i64 (q), .slice (A2) n2 c2, .slice (A3) n3 c3, .int .i64 (z)] 51)) 51 [.slice none 0 0, .int .i64 0, .slice none 0 0, .int .i64 0, .slice none 0 0, .slice none 0 0, .int .i64 0]
    rw [World.size_alloc] at hx
    exact hx
  have E0 : Hid (Below w.heap.size w ((w.alloc (.cells #[.slice (A) n c, .int .i64 (p), .slice (A') n' c', .int .i64 (q), .slice (A2) n2 c2, .slice (A3) n3 c3, .int .i64 (z)] 51)).alloc (.cells #[.slice none 0 0, .int .i64 0, .slice none 0 0, .int .i64 0, .slice none 0 0, .slice none 0 0, .int .i64 0] 51))) := (by go_grown : Below w.heap.size w _)
  have s0 : (((w.alloc (.cells #[.slice (A) n c, .int .i64 (p), .slice (A') n' c', .int .i64 (q), .slice (A2) n2 c2, .slice (A3) n3 c3, .int .i64 (z)] 51)).alloc (.cells #[.slice none 0 0, .int .i64 0, .slice none 0 0, .int .i64 0, .slice none 0 0, .slice none 0 0, .int .i64 0] 51))).heap.size = w.heap.size + 2 := by simp
  clear h h' g j
  have x0 := (X0.out.2 0 _ rfl).1; have x1 := (X0.out.2 1 _ rfl).1; have x2 := (X0.out.2 2 _ rfl).1; have x3 := (X0.out.2 3 _ rfl).1; have x4 := (X0.out.2 4 _ rfl).1; have x5 := (X0.out.2 5 _ rfl).1; have x6 := (X0.out.2 6 _ rfl).1
  go_enter Tryd.func45, Tryd.ntmps45
  go_wp2_with fail
  generalize ((w.alloc (.cells #[.slice (A) n c, .int .i64 (p), .slice (A') n' c', .int .i64 (q), .slice (A2) n2 c2, .slice (A3) n3 c3, .int .i64 (z)] 51)).alloc (.cells #[.slice none 0 0, .int .i64 0, .slice none 0 0, .int .i64 0, .slice none 0 0, .slice none 0 0, .int .i64 0] 51)) = w0 at *
  clear x0 x1 x2 x3 x4 x5 x6
  refine (sGoodBoth_any H10.out H20.out G0.out J0.out (by omega) (by omega) (by omega) (by omega)).mono ?_
  rintro e w1 ⟨rfl, hb1⟩
  have R1 := Lib.hid (R0.out.below hb1 (by omega))
  have s1 := hb1.size
  have E1 := Lib.hid (below_step hb1 E0.out (by omega))
  have X1 := Lib.hid (X0.out.below hb1 (by omega))
  have H11 := Lib.hid (H10.out.below hb1 (by omega))
  have H21 := Lib.hid (H20.out.below hb1 (by omega))
  have G1 := Lib.hid (G0.out.below hb1 (by omega))
  have J1 := Lib.hid (J0.out.below hb1 (by omega))
  clear hb1 H10 H20 G0 J0 X0 E0
  cases hg : goodB D p S q R Q z
  · have HO : Hid (cbOut D p S q R Q z N = (Bv.zero, 5)) := by show _ = _; simp [cbOut, hg]
    clear hg
    have r0 := (R1.out.2 0 _ rfl).1; have r1 := (R1.out.2 1 _ rfl).1; have r2 := (R1.out.2 2 _ rfl).1; have r3 := (R1.out.2 3 _ rfl).1; have r4 := (R1.out.2 4 _ rfl).1; have r5 := (R1.out.2 5 _ rfl).1; have r6 := (R1.out.2 6 _ rfl).1
    have g0 := (R1.out.2 0 _ rfl).2; have g1 := (R1.out.2 1 _ rfl).2; have g2 := (R1.out.2 2 _ rfl).2; have g3 := (R1.out.2 3 _ rfl).2; have g4 := (R1.out.2 4 _ rfl).2; have g5 := (R1.out.2 5 _ rfl).2; have g6 := (R1.out.2 6 _ rfl).2
    go_wp2
    refine bodyPost_ret (v := .tuple #[.agg #[.slice none 0 0, .int .i64 0, .slice none 0 0, .int .i64 0, .slice none 0 0, .slice none 0 0, .int .i64 0], .int .i64 5]) (by simp [results, Tryd.results45, go_sem, r0, g0, r1, g1, r2, g2, r3, g3, r4, g4, r5, g5, r6, g6]) rfl ?_
    rw [HO.out]
    refine PostBI.zero ?_
    (repeat (with_reducible refine below_set ?_ (by omega) _))
    exact E1.out
  · cases hN : inB N 0 60
    · have HO : Hid (cbOut D p S q R Q z N = (Bv.zero, 5)) := by show _ = _; simp [cbOut, hN]
      clear hg
      have r0 := (R1.out.2 0 _ rfl).1; have r1 := (R1.out.2 1 _ rfl).1; have r2 := (R1.out.2 2 _ rfl).1; have r3 := (R1.out.2 3 _ rfl).1; have r4 := (R1.out.2 4 _ rfl).1; have r5 := (R1.out.2 5 _ rfl).1; have r6 := (R1.out.2 6 _ rfl).1
      have g0 := (R1.out.2 0 _ rfl).2; have g1 := (R1.out.2 1 _ rfl).2; have g2 := (R1.out.2 2 _ rfl).2; have g3 := (R1.out.2 3 _ rfl).2; have g4 := (R1.out.2 4 _ rfl).2; have g5 := (R1.out.2 5 _ rfl).2; have g6 := (R1.out.2 6 _ rfl).2
      go_wp2_with (go_at_call 68; refine (inRange_any).mono ?_; rintro e w' ⟨rfl, rfl⟩)
      refine bodyPost_ret (v := .tuple #[.agg #[.slice none 0 0, .int .i64 0, .slice none 0 0, .int .i64 0, .slice none 0 0, .slice none 0 0, .int .i64 0], .int .i64 5]) (by simp [results, Tryd.results45, go_sem, r0, g0, r1, g1, r2, g2, r3, g3, r4, g4, r5, g5, r6, g6]) rfl ?_
      rw [HO.out]
      refine PostBI.zero ?_
      (repeat (with_reducible refine below_set ?_ (by omega) _))
      exact E1.out
    · have HO : Hid (cbOut D p S q R Q z N = if (fuGo S Q.length D p q.toNat Q).st = 0 then (⟨cutL (fuGo S Q.length D p q.toNat Q).d N.toNat, (fuGo S Q.length D p q.toNat Q).p - (R.length : Int), S, ((fuGo S Q.length D p q.toNat Q).q : Int), [], (fuGo S Q.length D p q.toNat Q).r, z⟩, 0) else (bvOf S R z (fuGo S Q.length D p q.toNat Q), (fuGo S Q.length D p q.toNat Q).st)) := by show _ = _; simp [cbOut, hg, hN]
      obtain ⟨hN0, hN1⟩ := inB_iff.1 hN
      obtain ⟨k, rfl⟩ := Int.eq_ofNat_of_zero_le hN0
      rw [Int.toNat_natCast] at HO
      obtain ⟨k1, k2, k3, k4, k5⟩ := goodB_start hg
      obtain ⟨q0, rfl⟩ := Int.eq_ofNat_of_zero_le k5
      rw [Int.toNat_natCast] at HO k2 k3
      have hl := validB_len k1
      obtain ⟨l1, l2, l3, l4, hp, _, hz⟩ := hl
      obtain ⟨i1, i2, i3, i4, i5⟩ := fuGo_valid Q.length D p q0 Q k2 k4 (by omega)
      have hn60 : n ≤ 60 := by rw [HL.out]; exact l1
      have hn12 : n' ≤ 12 := by rw [HL'.out]; exact l2
      have hn16 : n2 ≤ 16 := by rw [HG.out]; exact l3
      have hn16' : n3 ≤ 16 := by rw [HQ.out]; exact l4
      have HV := Lib.hid k2
      have HA := Lib.hid k4
      clear hg k1 k2 k4
      have x0 := (X1.out.2 0 _ rfl).1; have x1 := (X1.out.2 1 _ rfl).1; have x2 := (X1.out.2 2 _ rfl).1; have x3 := (X1.out.2 3 _ rfl).1; have x4 := (X1.out.2 4 _ rfl).1; have x5 := (X1.out.2 5 _ rfl).1; have x6 := (X1.out.2 6 _ rfl).1
      go_wp2_with (go_at_call 68; refine (inRange_any).mono ?_; rintro e w' ⟨rfl, rfl⟩)
      clear x0 x1 x2 x3 x4 x5 x6
      refine (sCopyBoth_any H11.out H21.out G1.out J1.out (by omega) (by omega) (by omega) (by omega) (by omega) (by omega) (by omega) (by omega) (by unfold okInt; omega) (by unfold okInt; omega) (by unfold okInt; omega)).mono ?_
      rintro e w2 ⟨A4, n4, c4, A4', n4', c4', A5, n5, c5, A6, n6, c6, rfl, ⟨hc4, hc4', hc5, hc6⟩, hb2, ⟨⟨hd, hd', ha, _, _⟩, hr, ha1, ha2, _⟩, ho, ha3, ha4, ha5⟩
      have s2 := hb2.size
      have D2 := Lib.hid hd
      have D2' := Lib.hid hd'
      have G2 := Lib.hid hr
      have J2 := Lib.hid ho
      have HAP := Lib.hid (And.intro ha (And.intro ha1 (And.intro ha2 (And.intro ha3 (And.intro ha4 ha5)))))
      have R2 := Lib.hid (R1.out.below hb2 (by omega))
      have E2 := Lib.hid (below_step hb2 E1.out (by omega))
      clear hb2 hd hd' hr ho ha ha1 ha2 ha3 ha4 ha5 R1 E1 H11 H21 G1 J1 X1
      have hn5 : n5 = R.length := G2.out.len
      have hn5le : n5 ≤ 16 := by omega
      rw [← hn5] at HO
      clear hn5
      have hcut := cutBoth_any (z := z) (c' := c4') (A2 := A5) (n2 := n5) (c2 := c5) D2.out D2'.out J2.out (Nat.le_refl _) (Nat.le_refl _) (Nat.le_refl _) HAP.out.2.2.2.1 hc4 hc6 HV.out (by omega) (by omega) HA.out (m := k) (by omega) (by omega) (bytesB_le (validD_iff.1 i1).1) (validD_iff.1 i1).2.2.2.1
      generalize fuGo S Q.length D p q0 Q = T at *
      have HF := Lib.hid hcut
      have HI1 := Lib.hid i1
      clear hcut i1
      go_wp2_with fail
      refine HF.out.mono ?_
      rintro e w3 ⟨A7, n7, c7, pp, Ai, ni, ci, A8, n8, c8, M7, C7, M8, C8, rfl, ⟨hc7, hc8⟩, hb3, hi8, ⟨hC7, hC8⟩, hor7, hor8, hap, hlast⟩
      have s3 := hb3.size
      obtain ⟨xs7, hi7a⟩ : ∃ xs, Ints w3 M7 C7 A7 n7 xs := by rcases hlast with ⟨_, _, _, _, _, h⟩ | ⟨_, _, _, _, _, h⟩ <;> exact ⟨_, h⟩
      have AP3 : Hid (Apart A7 n7 A4' n4' ∧ Apart A5 n5 A7 n7 ∧ Apart A8 n8 A4' n4' ∧ Apart A8 n8 A5 n5) := by
        show _ ∧ _ ∧ _ ∧ _
        refine ⟨?_, ?_, ?_, ?_⟩
        · rcases hor7 with ⟨rfl, rfl, _, _⟩ | h
          · exact HAP.out.1
          · exact (Apart.of_le D2'.out hi7a (by omega)).symm
        · rcases hor7 with ⟨rfl, rfl, _, _⟩ | h
          · exact HAP.out.2.1
          · exact Apart.of_le G2.out hi7a (by omega)
        · rcases hor8 with ⟨rfl, rfl, _, _⟩ | h
          · exact HAP.out.2.2.2.2.1
          · exact (Apart.of_le D2'.out hi8 (by omega)).symm
        · rcases hor8 with ⟨rfl, rfl, _, _⟩ | h
          · exact HAP.out.2.2.2.2.2
          · exact (Apart.of_le G2.out hi8 (by omega)).symm
      have hM7 : w1.heap.size ≤ M7 := by rcases hor7 with ⟨_, _, rfl, _⟩ | h <;> omega
      have hM8 : w1.heap.size ≤ M8 := by rcases hor8 with ⟨_, _, rfl, _⟩ | h <;> omega
      have hM7 : w1.heap.size ≤ M7 := by rcases hor7 with ⟨_, _, rfl, _⟩ | h <;> omega
      have hM8 : w1.heap.size ≤ M8 := by rcases hor8 with ⟨_, _, rfl, _⟩ | h <;> omega
      have K2 := Lib.hid (D2'.out.below hb3 (Nat.le_refl _))
      have K3 := Lib.hid (G2.out.below hb3 (Nat.le_refl _))
      have K4 := Lib.hid hi8
      have HAP3 := Lib.hid hap
      have R3 := Lib.hid (R2.out.below hb3 (by omega))
      have E3 := Lib.hid (below_step hb3 E2.out (by omega))
      clear hb3 hi8 hor7 hor8 hap R2 E2 HF D2 D2' G2 J2 hi7a
      obtain ⟨_, _, _, hp9, hq9⟩ := validD_iff.1 HI1.out
      rcases hlast with ⟨hst, rfl, rfl, rfl, rfl, hi7⟩ | ⟨hst, rfl, rfl, rfl, rfl, hi7⟩
      · have K1 := Lib.hid hi7
        rw [if_pos hst] at HO
        rw [hst]
        clear hst hi7
        have r0 := (R3.out.2 0 _ rfl).1; have r1 := (R3.out.2 1 _ rfl).1; have r2 := (R3.out.2 2 _ rfl).1; have r3 := (R3.out.2 3 _ rfl).1; have r4 := (R3.out.2 4 _ rfl).1; have r5 := (R3.out.2 5 _ rfl).1; have r6 := (R3.out.2 6 _ rfl).1
        have g0 := (R3.out.2 0 _ rfl).2; have g1 := (R3.out.2 1 _ rfl).2; have g2 := (R3.out.2 2 _ rfl).2; have g3 := (R3.out.2 3 _ rfl).2; have g4 := (R3.out.2 4 _ rfl).2; have g5 := (R3.out.2 5 _ rfl).2; have g6 := (R3.out.2 6 _ rfl).2
        go_wp2
        refine bodyPost_ret (v := .tuple #[.agg #[.slice (A7) n7 c7, .int .i64 (T.p - (n5 : Int)), .slice (A4') n4' c4', .int .i64 ((T.q : Int)), .slice (Ai) 0 0, .slice (A8) n8 c8, .int .i64 (z)], .int .i64 0]) (by simp [results, Tryd.results45, go_sem, r0, g0, r1, g1, r2, g2, r3, g3, r4, g4, r5, g5, r6, g6]) rfl ?_
        rw [HO.out]
        refine ⟨_, _, _, _, _, _, _, _, _, _, _, _, rfl, ⟨hc7, hc4', Nat.le_refl _, hc8⟩, ?_, ⟨⟨⟨?_, ?_, AP3.out.1, by unfold okInt; show _ ≤ T.p - (n5 : Int) ∧ T.p - (n5 : Int) ≤ _; omega, by unfold okInt; show _ ≤ (T.q : Int) ∧ (T.q : Int) ≤ _; omega⟩, ?_, fun h => absurd h (by omega), fun h => absurd h (by omega), by unfold okInt; show _ ≤ z ∧ z ≤ _; omega⟩, ?_, HAP3.out, AP3.out.2.2.1, fun _ h => absurd h (by omega)⟩⟩
        · (repeat (with_reducible refine below_set ?_ (by omega) _))
          exact E3.out
        · simp only [World.size_setCell]
          refine Ints.more (lo := M7) (hi := C7) ?_ (by omega) (by omega)
          (repeat (with_reducible refine Ints.set_ ?_ (by omega) _))
          exact K1.out
        · simp only [World.size_setCell]
          refine Ints.more (lo := w1.heap.size) (hi := w2.heap.size) ?_ (by omega) (by omega)
          (repeat (with_reducible refine Ints.set_ ?_ (by omega) _))
          exact K2.out
        · exact (Ints.nil _ _ _ 0 _).1
        · simp only [World.size_setCell]
          refine Ints.more (lo := M8) (hi := C8) ?_ (by omega) (by omega)
          (repeat (with_reducible refine Ints.set_ ?_ (by omega) _))
          exact K4.out
      · have K1 := Lib.hid hi7
        rw [if_neg hst] at HO
        clear hst hi7
        have r0 := (R3.out.2 0 _ rfl).1; have r1 := (R3.out.2 1 _ rfl).1; have r2 := (R3.out.2 2 _ rfl).1; have r3 := (R3.out.2 3 _ rfl).1; have r4 := (R3.out.2 4 _ rfl).1; have r5 := (R3.out.2 5 _ rfl).1; have r6 := (R3.out.2 6 _ rfl).1
        have g0 := (R3.out.2 0 _ rfl).2; have g1 := (R3.out.2 1 _ rfl).2; have g2 := (R3.out.2 2 _ rfl).2; have g3 := (R3.out.2 3 _ rfl).2; have g4 := (R3.out.2 4 _ rfl).2; have g5 := (R3.out.2 5 _ rfl).2; have g6 := (R3.out.2 6 _ rfl).2
        go_wp2
        refine bodyPost_ret (v := .tuple #[.agg #[.slice (A7) n7 c7, .int .i64 (T.p), .slice (A4') n4' c4', .int .i64 ((T.q : Int)), .slice (Ai) ni ci, .slice (A8) n8 c8, .int .i64 (z)], .int .i64 T.st]) (by simp [results, Tryd.results45, go_sem, r0, g0, r1, g1, r2, g2, r3, g3, r4, g4, r5, g5, r6, g6]) rfl ?_
        rw [HO.out]
        refine ⟨_, _, _, _, _, _, _, _, _, _, _, _, rfl, ⟨hc7, hc4', hc5, hc8⟩, ?_, ⟨⟨⟨?_, ?_, AP3.out.1, by unfold okInt; show _ ≤ T.p ∧ T.p ≤ _; omega, by unfold okInt; show _ ≤ (T.q : Int) ∧ (T.q : Int) ≤ _; omega⟩, ?_, AP3.out.2.1, HAP.out.2.2.1, by unfold okInt; show _ ≤ z ∧ z ≤ _; omega⟩, ?_, HAP3.out, AP3.out.2.2.1, AP3.out.2.2.2⟩⟩
        · (repeat (with_reducible refine below_set ?_ (by omega) _))
          exact E3.out
        · simp only [World.size_setCell]
          refine Ints.more (lo := M7) (hi := C7) ?_ (by omega) (by omega)
          (repeat (with_reducible refine Ints.set_ ?_ (by omega) _))
          exact K1.out
        · simp only [World.size_setCell]
          refine Ints.more (lo := w1.heap.size) (hi := w2.heap.size) ?_ (by omega) (by omega)
          (repeat (with_reducible refine Ints.set_ ?_ (by omega) _))
          exact K2.out
        · simp only [World.size_setCell]
          refine Ints.more (lo := w1.heap.size) (hi := w2.heap.size) ?_ (by omega) (by omega)
          (repeat (with_reducible refine Ints.set_ ?_ (by omega) _))
          exact K3.out
        · simp only [World.size_setCell]
          refine Ints.more (lo := M8) (hi := C8) ?_ (by omega) (by omega)
          (repeat (with_reducible refine Ints.set_ ?_ (by omega) _))
          exact K4.out
end Go.Proofs.YtphkkalkajleiaaDoor
set_option maxRecDepth 10000
namespace Go.Proofs.YtphkkalkajleiaaDoor
open Go.ChangeShapes Go.WideShapes Go.ChangeAt Go.RowKit
set_option linter.unusedSimpArgs false
set_option linter.unusedVariables false
namespace ExactCutBoth
set_option maxHeartbeats 16000000 in
theorem walk (A0 A0' E0 F0 : Option Addr) (n0 c0 n0' c0' m0 d0 l0 k0 : Nat) (D0 S0 R0 Q0 : List Int) (p0 q0 yy0 : Int) (z1 : Int) (a0 a1 a2 : Addr) (w : World) (h0 : Ints w 0 w.heap.size A0 n0 D0) (h0' : Ints w 0 w.heap.size A0' n0' S0) (g0 : Ints w 0 w.heap.size E0 m0 R0) (j0 : Ints w 0 w.heap.size F0 l0 Q0) (hp0 : okInt p0) (hq0 : okInt q0) (hy0 : okInt yy0) (hz1 : okInt z1) (HE : Errs w w.heap.size a0 a1 a2) :
    Calls Tryd.prog 12 #[.agg #[.slice A0 n0 c0, .int .i64 (p0), .slice A0' n0' c0', .int .i64 (q0), .slice E0 m0 d0, .slice F0 l0 k0, .int .i64 (yy0)], .int .i64 z1] w (BoolB true w) := by
  have HLa0 := Lib.hid h0.len
  have hm0 := h0.max
  have HLb0 := Lib.hid h0'.len
  have hm0' := h0'.max
  have HLc0 := Lib.hid g0.len
  have hm0'' := g0.max
  have HLd0 := Lib.hid j0.len
  have hm0''' := j0.max
  have a01 := Lib.hid h0
  have a02 := Lib.hid h0'
  have a03 := Lib.hid g0
  have a04 := Lib.hid j0
  clear h0 h0' g0 j0
  have EB := Lib.hid (Below.refl w.heap.size w)
  replace a01 := Lib.hid (a01.out.alloc (Nat.le_refl _) (.cells #[.slice A0 n0 c0, .int .i64 (p0), .slice A0' n0' c0', .int .i64 (q0), .slice E0 m0 d0, .slice F0 l0 k0, .int .i64 (yy0)] 48))
  replace a02 := Lib.hid (a02.out.alloc (Nat.le_refl _) (.cells #[.slice A0 n0 c0, .int .i64 (p0), .slice A0' n0' c0', .int .i64 (q0), .slice E0 m0 d0, .slice F0 l0 k0, .int .i64 (yy0)] 48))
  replace a03 := Lib.hid (a03.out.alloc (Nat.le_refl _) (.cells #[.slice A0 n0 c0, .int .i64 (p0), .slice A0' n0' c0', .int .i64 (q0), .slice E0 m0 d0, .slice F0 l0 k0, .int .i64 (yy0)] 48))
  replace a04 := Lib.hid (a04.out.alloc (Nat.le_refl _) (.cells #[.slice A0 n0 c0, .int .i64 (p0), .slice A0' n0' c0', .int .i64 (q0), .slice E0 m0 d0, .slice F0 l0 k0, .int .i64 (yy0)] 48))
  replace EB := Lib.hid (EB.out.alloc (Nat.le_refl _) (.cells #[.slice A0 n0 c0, .int .i64 (p0), .slice A0' n0' c0', .int .i64 (q0), .slice E0 m0 d0, .slice F0 l0 k0, .int .i64 (yy0)] 48))
  have Ba0 := Lib.hid (Box.new w 48 [.slice A0 n0 c0, .int .i64 (p0), .slice A0' n0' c0', .int .i64 (q0), .slice E0 m0 d0, .slice F0 l0 k0, .int .i64 (yy0)])
  go_enter Tryd.func12, Tryd.ntmps12
  go_wp2_with fail
  refine (szBoth_any hm0 hm0' hm0'' hm0''' (by omega) (by omega)).mono ?_
  rintro e w1 ⟨r, rfl, hr, hb⟩
  (try simp only [World.size_alloc, World.size_setCell, World.size_drew] at hb)
  have HB := Lib.hid hb
  clear hb
  have s1 := HB.out.size
  (try simp only [World.size_alloc, World.size_setCell, World.size_drew] at s1)
  replace a01 := Lib.hid (a01.out.below HB.out (by omega))
  replace a02 := Lib.hid (a02.out.below HB.out (by omega))
  replace a03 := Lib.hid (a03.out.below HB.out (by omega))
  replace a04 := Lib.hid (a04.out.below HB.out (by omega))
  replace Ba0 := Lib.hid (Ba0.out.below HB.out (by omega))
  replace EB := Lib.hid (below_step HB.out EB.out (by omega))
  clear HB
  have va0l := Ba0.out.lt
  have va00 := (Ba0.out.2 0 _ rfl).1
  have va01 := (Ba0.out.2 1 _ rfl).1
  have va02 := (Ba0.out.2 2 _ rfl).1
  have va03 := (Ba0.out.2 3 _ rfl).1
  have va04 := (Ba0.out.2 4 _ rfl).1
  have va05 := (Ba0.out.2 5 _ rfl).1
  have va06 := (Ba0.out.2 6 _ rfl).1
  go_wp2_with fail
  · go_ret
    exact ⟨rfl, EB.out⟩
  have hs0 : n0 ≤ 1048576 := by omega
  have hs0' : n0' ≤ 1048576 := by omega
  have hs0'' : m0 ≤ 1048576 := by omega
  have hs0''' : l0 ≤ 1048576 := by omega
  clear hr
  refine (toBoth_any a01.out a02.out a03.out a04.out (by omega) (by omega) (by omega) (by omega) hs0 hs0' hs0'' hs0''' hp0 hq0 hy0).mono ?_
  clear va0l va00 va01 va02 va03 va04 va05 va06
  rintro e w2 ⟨At0, nt0, ct0, At0', nt0', ct0', Et0, mt0, dt0, Ft0, lt0, kt0, rfl, ⟨hct0, hct0', hct0'', hct0'''⟩, hb, ⟨⟨⟨hd0, hd1, ha0, _, _⟩, hd2, ha1, ha2, _⟩, hd3, ha3, ha4, ha5⟩⟩
  (try simp only [World.size_alloc, World.size_setCell, World.size_drew] at hb)
  have HB := Lib.hid hb
  clear hb
  have s2 := HB.out.size
  (try simp only [World.size_alloc, World.size_setCell, World.size_drew] at s2)
  replace a01 := Lib.hid (a01.out.below HB.out (by omega))
  replace a02 := Lib.hid (a02.out.below HB.out (by omega))
  replace a03 := Lib.hid (a03.out.below HB.out (by omega))
  replace a04 := Lib.hid (a04.out.below HB.out (by omega))
  replace Ba0 := Lib.hid (Ba0.out.below HB.out (by omega))
  replace EB := Lib.hid (below_step HB.out EB.out (by omega))
  clear HB
  have t01 := Lib.hid hd0
  have t02 := Lib.hid hd1
  have t03 := Lib.hid hd2
  have t04 := Lib.hid hd3
  have t01_t02 := Lib.hid ha0
  have t03_t01 := Lib.hid ha1
  have t03_t02 := Lib.hid ha2
  have t04_t01 := Lib.hid ha3
  have t04_t02 := Lib.hid ha4
  have t04_t03 := Lib.hid ha5
  clear hd0 hd1 hd2 hd3 ha0 ha1 ha2 ha3 ha4 ha5
  have ht0 : nt0 ≤ 1048576 := by have := t01.out.len; have := HLa0.out; omega
  have ht0' : nt0' ≤ 1048576 := by have := t02.out.len; have := HLb0.out; omega
  have ht0'' : mt0 ≤ 1048576 := by have := t03.out.len; have := HLc0.out; omega
  have ht0''' : lt0 ≤ 1048576 := by have := t04.out.len; have := HLd0.out; omega
  go_wp2_with fail
  refine (SCutBoth_x t01.out t02.out t03.out t04.out (by omega) (by omega) (by omega) (by omega) hct0 hct0' hct0'' hct0''' ht0 ht0' ht0'' ht0''' hz1).mono ?_
  rintro e w3 ⟨Au, nu, cu, Au', nu', cu', Eu, mu, du, Fu, lu, ku, rfl, ⟨hcu, hcu', hcu'', hcu'''⟩, hb, ⟨⟨⟨hd0, hd1, ha0, _, _⟩, hd2, ha1, ha2, _⟩, hd3, ha3, ha4, ha5⟩⟩
  (try simp only [World.size_alloc, World.size_setCell, World.size_drew] at hb)
  have HB := Lib.hid hb
  clear hb
  have s3 := HB.out.size
  (try simp only [World.size_alloc, World.size_setCell, World.size_drew] at s3)
  replace a01 := Lib.hid (a01.out.below HB.out (by omega))
  replace a02 := Lib.hid (a02.out.below HB.out (by omega))
  replace a03 := Lib.hid (a03.out.below HB.out (by omega))
  replace a04 := Lib.hid (a04.out.below HB.out (by omega))
  replace Ba0 := Lib.hid (Ba0.out.below HB.out (by omega))
  replace t01 := Lib.hid (t01.out.below HB.out (by omega))
  replace t02 := Lib.hid (t02.out.below HB.out (by omega))
  replace t03 := Lib.hid (t03.out.below HB.out (by omega))
  replace t04 := Lib.hid (t04.out.below HB.out (by omega))
  replace EB := Lib.hid (below_step HB.out EB.out (by omega))
  clear HB
  have u1 := Lib.hid hd0
  have u2 := Lib.hid hd1
  have u3 := Lib.hid hd2
  have u4 := Lib.hid hd3
  clear hd0 hd1 hd2 hd3
  have u1_u2 := Lib.hid ha0
  clear ha0
  have u3_u1 := Lib.hid ha1
  clear ha1
  have u3_u2 := Lib.hid ha2
  clear ha2
  have u4_u1 := Lib.hid ha3
  clear ha3
  have u4_u2 := Lib.hid ha4
  clear ha4
  have u4_u3 := Lib.hid ha5
  clear ha5
  obtain ⟨hx0, hx1, hx2, hx3⟩ := cbOut_le D0 p0 S0 q0 R0 Q0 yy0 z1
  have hl_u1 : nu ≤ 1048576 := by have := u1.out.len; omega
  have hl_u2 : nu' ≤ 1048576 := by have := u2.out.len; omega
  have hl_u3 : mu ≤ 1048576 := by have := u3.out.len; omega
  have hl_u4 : lu ≤ 1048576 := by have := u4.out.len; omega
  clear hx0 hx1 hx2 hx3
  clear t01 t02 t03 t04
  have va0l := Ba0.out.lt
  have va00 := (Ba0.out.2 0 _ rfl).1
  have va01 := (Ba0.out.2 1 _ rfl).1
  have va02 := (Ba0.out.2 2 _ rfl).1
  have va03 := (Ba0.out.2 3 _ rfl).1
  have va04 := (Ba0.out.2 4 _ rfl).1
  have va05 := (Ba0.out.2 5 _ rfl).1
  have va06 := (Ba0.out.2 6 _ rfl).1
  go_wp2_with fail
  clear va0l va00 va01 va02 va03 va04 va05 va06
  replace a01 := Lib.hid (a01.out.alloc (by omega) (.cells #[.slice Au nu cu, .int .i64 ((cbOut D0 p0 S0 q0 R0 Q0 yy0 z1).1.p), .slice Au' nu' cu', .int .i64 ((cbOut D0 p0 S0 q0 R0 Q0 yy0 z1).1.q), .slice Eu mu du, .slice Fu lu ku, .int .i64 ((cbOut D0 p0 S0 q0 R0 Q0 yy0 z1).1.z)] 51))
  replace a02 := Lib.hid (a02.out.alloc (by omega) (.cells #[.slice Au nu cu, .int .i64 ((cbOut D0 p0 S0 q0 R0 Q0 yy0 z1).1.p), .slice Au' nu' cu', .int .i64 ((cbOut D0 p0 S0 q0 R0 Q0 yy0 z1).1.q), .slice Eu mu du, .slice Fu lu ku, .int .i64 ((cbOut D0 p0 S0 q0 R0 Q0 yy0 z1).1.z)] 51))
  replace a03 := Lib.hid (a03.out.alloc (by omega) (.cells #[.slice Au nu cu, .int .i64 ((cbOut D0 p0 S0 q0 R0 Q0 yy0 z1).1.p), .slice Au' nu' cu', .int .i64 ((cbOut D0 p0 S0 q0 R0 Q0 yy0 z1).1.q), .slice Eu mu du, .slice Fu lu ku, .int .i64 ((cbOut D0 p0 S0 q0 R0 Q0 yy0 z1).1.z)] 51))
  replace a04 := Lib.hid (a04.out.alloc (by omega) (.cells #[.slice Au nu cu, .int .i64 ((cbOut D0 p0 S0 q0 R0 Q0 yy0 z1).1.p), .slice Au' nu' cu', .int .i64 ((cbOut D0 p0 S0 q0 R0 Q0 yy0 z1).1.q), .slice Eu mu du, .slice Fu lu ku, .int .i64 ((cbOut D0 p0 S0 q0 R0 Q0 yy0 z1).1.z)] 51))
  replace Ba0 := Lib.hid (Ba0.out.alloc (.cells #[.slice Au nu cu, .int .i64 ((cbOut D0 p0 S0 q0 R0 Q0 yy0 z1).1.p), .slice Au' nu' cu', .int .i64 ((cbOut D0 p0 S0 q0 R0 Q0 yy0 z1).1.q), .slice Eu mu du, .slice Fu lu ku, .int .i64 ((cbOut D0 p0 S0 q0 R0 Q0 yy0 z1).1.z)] 51))
  replace u1 := Lib.hid (u1.out.alloc (by omega) (.cells #[.slice Au nu cu, .int .i64 ((cbOut D0 p0 S0 q0 R0 Q0 yy0 z1).1.p), .slice Au' nu' cu', .int .i64 ((cbOut D0 p0 S0 q0 R0 Q0 yy0 z1).1.q), .slice Eu mu du, .slice Fu lu ku, .int .i64 ((cbOut D0 p0 S0 q0 R0 Q0 yy0 z1).1.z)] 51))
  replace u2 := Lib.hid (u2.out.alloc (by omega) (.cells #[.slice Au nu cu, .int .i64 ((cbOut D0 p0 S0 q0 R0 Q0 yy0 z1).1.p), .slice Au' nu' cu', .int .i64 ((cbOut D0 p0 S0 q0 R0 Q0 yy0 z1).1.q), .slice Eu mu du, .slice Fu lu ku, .int .i64 ((cbOut D0 p0 S0 q0 R0 Q0 yy0 z1).1.z)] 51))
  replace u3 := Lib.hid (u3.out.alloc (by omega) (.cells #[.slice Au nu cu, .int .i64 ((cbOut D0 p0 S0 q0 R0 Q0 yy0 z1).1.p), .slice Au' nu' cu', .int .i64 ((cbOut D0 p0 S0 q0 R0 Q0 yy0 z1).1.q), .slice Eu mu du, .slice Fu lu ku, .int .i64 ((cbOut D0 p0 S0 q0 R0 Q0 yy0 z1).1.z)] 51))
  replace u4 := Lib.hid (u4.out.alloc (by omega) (.cells #[.slice Au nu cu, .int .i64 ((cbOut D0 p0 S0 q0 R0 Q0 yy0 z1).1.p), .slice Au' nu' cu', .int .i64 ((cbOut D0 p0 S0 q0 R0 Q0 yy0 z1).1.q), .slice Eu mu du, .slice Fu lu ku, .int .i64 ((cbOut D0 p0 S0 q0 R0 Q0 yy0 z1).1.z)] 51))
  replace EB := Lib.hid (EB.out.alloc (by omega) (.cells #[.slice Au nu cu, .int .i64 ((cbOut D0 p0 S0 q0 R0 Q0 yy0 z1).1.p), .slice Au' nu' cu', .int .i64 ((cbOut D0 p0 S0 q0 R0 Q0 yy0 z1).1.q), .slice Eu mu du, .slice Fu lu ku, .int .i64 ((cbOut D0 p0 S0 q0 R0 Q0 yy0 z1).1.z)] 51))
  have Bu := Lib.hid (Box.new w3 51 [.slice Au nu cu, .int .i64 ((cbOut D0 p0 S0 q0 R0 Q0 yy0 z1).1.p), .slice Au' nu' cu', .int .i64 ((cbOut D0 p0 S0 q0 R0 Q0 yy0 z1).1.q), .slice Eu mu du, .slice Fu lu ku, .int .i64 ((cbOut D0 p0 S0 q0 R0 Q0 yy0 z1).1.z)])
  have s4 : w3.heap.size + 1 ≤ (w3.alloc (.cells #[.slice Au nu cu, .int .i64 ((cbOut D0 p0 S0 q0 R0 Q0 yy0 z1).1.p), .slice Au' nu' cu', .int .i64 ((cbOut D0 p0 S0 q0 R0 Q0 yy0 z1).1.q), .slice Eu mu du, .slice Fu lu ku, .int .i64 ((cbOut D0 p0 S0 q0 R0 Q0 yy0 z1).1.z)] 51)).heap.size := by simp
  generalize w3.alloc (.cells #[.slice Au nu cu, .int .i64 ((cbOut D0 p0 S0 q0 R0 Q0 yy0 z1).1.p), .slice Au' nu' cu', .int .i64 ((cbOut D0 p0 S0 q0 R0 Q0 yy0 z1).1.q), .slice Eu mu du, .slice Fu lu ku, .int .i64 ((cbOut D0 p0 S0 q0 R0 Q0 yy0 z1).1.z)] 51) = w4 at *
  refine (toBoth_any a01.out a02.out a03.out a04.out (by omega) (by omega) (by omega) (by omega) hs0 hs0' hs0'' hs0''' hp0 hq0 hy0).mono ?_
  rintro e w5 ⟨Ax0, nx0, cx0, Ax0', nx0', cx0', Ex0, mx0, dx0, Fx0, lx0, kx0, rfl, ⟨hcx0, hcx0', hcx0'', hcx0'''⟩, hb, ⟨⟨⟨hd0, hd1, ha0, _, _⟩, hd2, ha1, ha2, _⟩, hd3, ha3, ha4, ha5⟩⟩
  (try simp only [World.size_alloc, World.size_setCell, World.size_drew] at hb)
  have HB := Lib.hid hb
  clear hb
  have s5 := HB.out.size
  (try simp only [World.size_alloc, World.size_setCell, World.size_drew] at s5)
  replace a01 := Lib.hid (a01.out.below HB.out (by omega))
  replace a02 := Lib.hid (a02.out.below HB.out (by omega))
  replace a03 := Lib.hid (a03.out.below HB.out (by omega))
  replace a04 := Lib.hid (a04.out.below HB.out (by omega))
  replace Ba0 := Lib.hid (Ba0.out.below HB.out (by omega))
  replace u1 := Lib.hid (u1.out.below HB.out (by omega))
  replace u2 := Lib.hid (u2.out.below HB.out (by omega))
  replace u3 := Lib.hid (u3.out.below HB.out (by omega))
  replace u4 := Lib.hid (u4.out.below HB.out (by omega))
  replace Bu := Lib.hid (Bu.out.below HB.out (by omega))
  replace EB := Lib.hid (below_step HB.out EB.out (by omega))
  clear HB
  have x01 := Lib.hid hd0
  have x02 := Lib.hid hd1
  have x03 := Lib.hid hd2
  have x04 := Lib.hid hd3
  have x01_x02 := Lib.hid ha0
  have x03_x01 := Lib.hid ha1
  have x03_x02 := Lib.hid ha2
  have x04_x01 := Lib.hid ha3
  have x04_x02 := Lib.hid ha4
  have x04_x03 := Lib.hid ha5
  clear hd0 hd1 hd2 hd3 ha0 ha1 ha2 ha3 ha4 ha5
  have hx0 : nx0 ≤ 1048576 := by have := x01.out.len; have := HLa0.out; omega
  have hx0' : nx0' ≤ 1048576 := by have := x02.out.len; have := HLb0.out; omega
  have hx0'' : mx0 ≤ 1048576 := by have := x03.out.len; have := HLc0.out; omega
  have hx0''' : lx0 ≤ 1048576 := by have := x04.out.len; have := HLd0.out; omega
  go_wp2_with fail
  replace a01 := Lib.hid (a01.out.alloc (by omega) (.cells #[.slice Ax0 nx0 cx0, .int .i64 (p0), .slice Ax0' nx0' cx0', .int .i64 (q0), .slice Ex0 mx0 dx0, .slice Fx0 lx0 kx0, .int .i64 (yy0)] 51))
  replace a02 := Lib.hid (a02.out.alloc (by omega) (.cells #[.slice Ax0 nx0 cx0, .int .i64 (p0), .slice Ax0' nx0' cx0', .int .i64 (q0), .slice Ex0 mx0 dx0, .slice Fx0 lx0 kx0, .int .i64 (yy0)] 51))
  replace a03 := Lib.hid (a03.out.alloc (by omega) (.cells #[.slice Ax0 nx0 cx0, .int .i64 (p0), .slice Ax0' nx0' cx0', .int .i64 (q0), .slice Ex0 mx0 dx0, .slice Fx0 lx0 kx0, .int .i64 (yy0)] 51))
  replace a04 := Lib.hid (a04.out.alloc (by omega) (.cells #[.slice Ax0 nx0 cx0, .int .i64 (p0), .slice Ax0' nx0' cx0', .int .i64 (q0), .slice Ex0 mx0 dx0, .slice Fx0 lx0 kx0, .int .i64 (yy0)] 51))
  replace Ba0 := Lib.hid (Ba0.out.alloc (.cells #[.slice Ax0 nx0 cx0, .int .i64 (p0), .slice Ax0' nx0' cx0', .int .i64 (q0), .slice Ex0 mx0 dx0, .slice Fx0 lx0 kx0, .int .i64 (yy0)] 51))
  replace u1 := Lib.hid (u1.out.alloc (by omega) (.cells #[.slice Ax0 nx0 cx0, .int .i64 (p0), .slice Ax0' nx0' cx0', .int .i64 (q0), .slice Ex0 mx0 dx0, .slice Fx0 lx0 kx0, .int .i64 (yy0)] 51))
  replace u2 := Lib.hid (u2.out.alloc (by omega) (.cells #[.slice Ax0 nx0 cx0, .int .i64 (p0), .slice Ax0' nx0' cx0', .int .i64 (q0), .slice Ex0 mx0 dx0, .slice Fx0 lx0 kx0, .int .i64 (yy0)] 51))
  replace u3 := Lib.hid (u3.out.alloc (by omega) (.cells #[.slice Ax0 nx0 cx0, .int .i64 (p0), .slice Ax0' nx0' cx0', .int .i64 (q0), .slice Ex0 mx0 dx0, .slice Fx0 lx0 kx0, .int .i64 (yy0)] 51))
  replace u4 := Lib.hid (u4.out.alloc (by omega) (.cells #[.slice Ax0 nx0 cx0, .int .i64 (p0), .slice Ax0' nx0' cx0', .int .i64 (q0), .slice Ex0 mx0 dx0, .slice Fx0 lx0 kx0, .int .i64 (yy0)] 51))
  replace Bu := Lib.hid (Bu.out.alloc (.cells #[.slice Ax0 nx0 cx0, .int .i64 (p0), .slice Ax0' nx0' cx0', .int .i64 (q0), .slice Ex0 mx0 dx0, .slice Fx0 lx0 kx0, .int .i64 (yy0)] 51))
  replace x01 := Lib.hid (x01.out.alloc (by omega) (.cells #[.slice Ax0 nx0 cx0, .int .i64 (p0), .slice Ax0' nx0' cx0', .int .i64 (q0), .slice Ex0 mx0 dx0, .slice Fx0 lx0 kx0, .int .i64 (yy0)] 51))
  replace x02 := Lib.hid (x02.out.alloc (by omega) (.cells #[.slice Ax0 nx0 cx0, .int .i64 (p0), .slice Ax0' nx0' cx0', .int .i64 (q0), .slice Ex0 mx0 dx0, .slice Fx0 lx0 kx0, .int .i64 (yy0)] 51))
  replace x03 := Lib.hid (x03.out.alloc (by omega) (.cells #[.slice Ax0 nx0 cx0, .int .i64 (p0), .slice Ax0' nx0' cx0', .int .i64 (q0), .slice Ex0 mx0 dx0, .slice Fx0 lx0 kx0, .int .i64 (yy0)] 51))
  replace x04 := Lib.hid (x04.out.alloc (by omega) (.cells #[.slice Ax0 nx0 cx0, .int .i64 (p0), .slice Ax0' nx0' cx0', .int .i64 (q0), .slice Ex0 mx0 dx0, .slice Fx0 lx0 kx0, .int .i64 (yy0)] 51))
  replace EB := Lib.hid (EB.out.alloc (by omega) (.cells #[.slice Ax0 nx0 cx0, .int .i64 (p0), .slice Ax0' nx0' cx0', .int .i64 (q0), .slice Ex0 mx0 dx0, .slice Fx0 lx0 kx0, .int .i64 (yy0)] 51))
  have Bx0 := Lib.hid (Box.new w5 51 [.slice Ax0 nx0 cx0, .int .i64 (p0), .slice Ax0' nx0' cx0', .int .i64 (q0), .slice Ex0 mx0 dx0, .slice Fx0 lx0 kx0, .int .i64 (yy0)])
  have s6 : w5.heap.size + 1 ≤ (w5.alloc (.cells #[.slice Ax0 nx0 cx0, .int .i64 (p0), .slice Ax0' nx0' cx0', .int .i64 (q0), .slice Ex0 mx0 dx0, .slice Fx0 lx0 kx0, .int .i64 (yy0)] 51)).heap.size := by simp
  generalize w5.alloc (.cells #[.slice Ax0 nx0 cx0, .int .i64 (p0), .slice Ax0' nx0' cx0', .int .i64 (q0), .slice Ex0 mx0 dx0, .slice Fx0 lx0 kx0, .int .i64 (yy0)] 51) = w6 at *
  refine (CutBoth_x (HE.below EB.out (Nat.le_refl _)) EB.out.size x01.out x02.out x03.out x04.out (by omega) (by omega) (by omega) (by omega) hcx0 hcx0' hcx0'' hcx0''' hx0 hx0' hx0'' hx0''' hz1).mono ?_
  rintro e w7 ⟨Ag, ng, cg, Ag', ng', cg', Eg, mg, dg, Fg, lg, kg, rfl, ⟨hcg, hcg', hcg'', hcg'''⟩, hb, ⟨⟨⟨hd0, hd1, ha0, _, _⟩, hd2, ha1, ha2, _⟩, hd3, ha3, ha4, ha5⟩⟩
  (try simp only [World.size_alloc, World.size_setCell, World.size_drew] at hb)
  have HB := Lib.hid hb
  clear hb
  have s7 := HB.out.size
  (try simp only [World.size_alloc, World.size_setCell, World.size_drew] at s7)
  replace a01 := Lib.hid (a01.out.below HB.out (by omega))
  replace a02 := Lib.hid (a02.out.below HB.out (by omega))
  replace a03 := Lib.hid (a03.out.below HB.out (by omega))
  replace a04 := Lib.hid (a04.out.below HB.out (by omega))
  replace Ba0 := Lib.hid (Ba0.out.below HB.out (by omega))
  replace u1 := Lib.hid (u1.out.below HB.out (by omega))
  replace u2 := Lib.hid (u2.out.below HB.out (by omega))
  replace u3 := Lib.hid (u3.out.below HB.out (by omega))
  replace u4 := Lib.hid (u4.out.below HB.out (by omega))
  replace Bu := Lib.hid (Bu.out.below HB.out (by omega))
  replace x01 := Lib.hid (x01.out.below HB.out (by omega))
  replace x02 := Lib.hid (x02.out.below HB.out (by omega))
  replace x03 := Lib.hid (x03.out.below HB.out (by omega))
  replace x04 := Lib.hid (x04.out.below HB.out (by omega))
  replace Bx0 := Lib.hid (Bx0.out.below HB.out (by omega))
  replace EB := Lib.hid (below_step HB.out EB.out (by omega))
  clear HB
  have g1 := Lib.hid hd0
  have g2 := Lib.hid hd1
  have g3 := Lib.hid hd2
  have g4 := Lib.hid hd3
  clear hd0 hd1 hd2 hd3
  have g1_g2 := Lib.hid ha0
  clear ha0
  have g3_g1 := Lib.hid ha1
  clear ha1
  have g3_g2 := Lib.hid ha2
  clear ha2
  have g4_g1 := Lib.hid ha3
  clear ha3
  have g4_g2 := Lib.hid ha4
  clear ha4
  have g4_g3 := Lib.hid ha5
  clear ha5
  obtain ⟨hx0, hx1, hx2, hx3⟩ := cbOut_le D0 p0 S0 q0 R0 Q0 yy0 z1
  have hl_g1 : ng ≤ 1048576 := by have := g1.out.len; omega
  have hl_g2 : ng' ≤ 1048576 := by have := g2.out.len; omega
  have hl_g3 : mg ≤ 1048576 := by have := g3.out.len; omega
  have hl_g4 : lg ≤ 1048576 := by have := g4.out.len; omega
  clear hx0 hx1 hx2 hx3
  have vul := Bu.out.lt
  have vu0 := (Bu.out.2 0 _ rfl).1
  have vu1 := (Bu.out.2 1 _ rfl).1
  have vu2 := (Bu.out.2 2 _ rfl).1
  have vu3 := (Bu.out.2 3 _ rfl).1
  have vu4 := (Bu.out.2 4 _ rfl).1
  have vu5 := (Bu.out.2 5 _ rfl).1
  have vu6 := (Bu.out.2 6 _ rfl).1
  go_wp2_with fail
  clear vul vu0 vu1 vu2 vu3 vu4 vu5 vu6
  replace a01 := Lib.hid (a01.out.alloc (by omega) (.cells #[.slice Ag ng cg, .int .i64 ((cbOut D0 p0 S0 q0 R0 Q0 yy0 z1).1.p), .slice Ag' ng' cg', .int .i64 ((cbOut D0 p0 S0 q0 R0 Q0 yy0 z1).1.q), .slice Eg mg dg, .slice Fg lg kg, .int .i64 ((cbOut D0 p0 S0 q0 R0 Q0 yy0 z1).1.z)] 51))
  replace a02 := Lib.hid (a02.out.alloc (by omega) (.cells #[.slice Ag ng cg, .int .i64 ((cbOut D0 p0 S0 q0 R0 Q0 yy0 z1).1.p), .slice Ag' ng' cg', .int .i64 ((cbOut D0 p0 S0 q0 R0 Q0 yy0 z1).1.q), .slice Eg mg dg, .slice Fg lg kg, .int .i64 ((cbOut D0 p0 S0 q0 R0 Q0 yy0 z1).1.z)] 51))
  replace a03 := Lib.hid (a03.out.alloc (by omega) (.cells #[.slice Ag ng cg, .int .i64 ((cbOut D0 p0 S0 q0 R0 Q0 yy0 z1).1.p), .slice Ag' ng' cg', .int .i64 ((cbOut D0 p0 S0 q0 R0 Q0 yy0 z1).1.q), .slice Eg mg dg, .slice Fg lg kg, .int .i64 ((cbOut D0 p0 S0 q0 R0 Q0 yy0 z1).1.z)] 51))
  replace a04 := Lib.hid (a04.out.alloc (by omega) (.cells #[.slice Ag ng cg, .int .i64 ((cbOut D0 p0 S0 q0 R0 Q0 yy0 z1).1.p), .slice Ag' ng' cg', .int .i64 ((cbOut D0 p0 S0 q0 R0 Q0 yy0 z1).1.q), .slice Eg mg dg, .slice Fg lg kg, .int .i64 ((cbOut D0 p0 S0 q0 R0 Q0 yy0 z1).1.z)] 51))
  replace Ba0 := Lib.hid (Ba0.out.alloc (.cells #[.slice Ag ng cg, .int .i64 ((cbOut D0 p0 S0 q0 R0 Q0 yy0 z1).1.p), .slice Ag' ng' cg', .int .i64 ((cbOut D0 p0 S0 q0 R0 Q0 yy0 z1).1.q), .slice Eg mg dg, .slice Fg lg kg, .int .i64 ((cbOut D0 p0 S0 q0 R0 Q0 yy0 z1).1.z)] 51))
  replace u1 := Lib.hid (u1.out.alloc (by omega) (.cells #[.slice Ag ng cg, .int .i64 ((cbOut D0 p0 S0 q0 R0 Q0 yy0 z1).1.p), .slice Ag' ng' cg', .int .i64 ((cbOut D0 p0 S0 q0 R0 Q0 yy0 z1).1.q), .slice Eg mg dg, .slice Fg lg kg, .int .i64 ((cbOut D0 p0 S0 q0 R0 Q0 yy0 z1).1.z)] 51))
  replace u2 := Lib.hid (u2.out.alloc (by omega) (.cells #[.slice Ag ng cg, .int .i64 ((cbOut D0 p0 S0 q0 R0 Q0 yy0 z1).1.p), .slice Ag' ng' cg', .int .i64 ((cbOut D0 p0 S0 q0 R0 Q0 yy0 z1).1.q), .slice Eg mg dg, .slice Fg lg kg, .int .i64 ((cbOut D0 p0 S0 q0 R0 Q0 yy0 z1).1.z)] 51))
  replace u3 := Lib.hid (u3.out.alloc (by omega) (.cells #[.slice Ag ng cg, .int .i64 ((cbOut D0 p0 S0 q0 R0 Q0 yy0 z1).1.p), .slice Ag' ng' cg', .int .i64 ((cbOut D0 p0 S0 q0 R0 Q0 yy0 z1).1.q), .slice Eg mg dg, .slice Fg lg kg, .int .i64 ((cbOut D0 p0 S0 q0 R0 Q0 yy0 z1).1.z)] 51))
  replace u4 := Lib.hid (u4.out.alloc (by omega) (.cells #[.slice Ag ng cg, .int .i64 ((cbOut D0 p0 S0 q0 R0 Q0 yy0 z1).1.p), .slice Ag' ng' cg', .int .i64 ((cbOut D0 p0 S0 q0 R0 Q0 yy0 z1).1.q), .slice Eg mg dg, .slice Fg lg kg, .int .i64 ((cbOut D0 p0 S0 q0 R0 Q0 yy0 z1).1.z)] 51))
  replace Bu := Lib.hid (Bu.out.alloc (.cells #[.slice Ag ng cg, .int .i64 ((cbOut D0 p0 S0 q0 R0 Q0 yy0 z1).1.p), .slice Ag' ng' cg', .int .i64 ((cbOut D0 p0 S0 q0 R0 Q0 yy0 z1).1.q), .slice Eg mg dg, .slice Fg lg kg, .int .i64 ((cbOut D0 p0 S0 q0 R0 Q0 yy0 z1).1.z)] 51))
  replace x01 := Lib.hid (x01.out.alloc (by omega) (.cells #[.slice Ag ng cg, .int .i64 ((cbOut D0 p0 S0 q0 R0 Q0 yy0 z1).1.p), .slice Ag' ng' cg', .int .i64 ((cbOut D0 p0 S0 q0 R0 Q0 yy0 z1).1.q), .slice Eg mg dg, .slice Fg lg kg, .int .i64 ((cbOut D0 p0 S0 q0 R0 Q0 yy0 z1).1.z)] 51))
  replace x02 := Lib.hid (x02.out.alloc (by omega) (.cells #[.slice Ag ng cg, .int .i64 ((cbOut D0 p0 S0 q0 R0 Q0 yy0 z1).1.p), .slice Ag' ng' cg', .int .i64 ((cbOut D0 p0 S0 q0 R0 Q0 yy0 z1).1.q), .slice Eg mg dg, .slice Fg lg kg, .int .i64 ((cbOut D0 p0 S0 q0 R0 Q0 yy0 z1).1.z)] 51))
  replace x03 := Lib.hid (x03.out.alloc (by omega) (.cells #[.slice Ag ng cg, .int .i64 ((cbOut D0 p0 S0 q0 R0 Q0 yy0 z1).1.p), .slice Ag' ng' cg', .int .i64 ((cbOut D0 p0 S0 q0 R0 Q0 yy0 z1).1.q), .slice Eg mg dg, .slice Fg lg kg, .int .i64 ((cbOut D0 p0 S0 q0 R0 Q0 yy0 z1).1.z)] 51))
  replace x04 := Lib.hid (x04.out.alloc (by omega) (.cells #[.slice Ag ng cg, .int .i64 ((cbOut D0 p0 S0 q0 R0 Q0 yy0 z1).1.p), .slice Ag' ng' cg', .int .i64 ((cbOut D0 p0 S0 q0 R0 Q0 yy0 z1).1.q), .slice Eg mg dg, .slice Fg lg kg, .int .i64 ((cbOut D0 p0 S0 q0 R0 Q0 yy0 z1).1.z)] 51))
  replace Bx0 := Lib.hid (Bx0.out.alloc (.cells #[.slice Ag ng cg, .int .i64 ((cbOut D0 p0 S0 q0 R0 Q0 yy0 z1).1.p), .slice Ag' ng' cg', .int .i64 ((cbOut D0 p0 S0 q0 R0 Q0 yy0 z1).1.q), .slice Eg mg dg, .slice Fg lg kg, .int .i64 ((cbOut D0 p0 S0 q0 R0 Q0 yy0 z1).1.z)] 51))
  replace g1 := Lib.hid (g1.out.alloc (by omega) (.cells #[.slice Ag ng cg, .int .i64 ((cbOut D0 p0 S0 q0 R0 Q0 yy0 z1).1.p), .slice Ag' ng' cg', .int .i64 ((cbOut D0 p0 S0 q0 R0 Q0 yy0 z1).1.q), .slice Eg mg dg, .slice Fg lg kg, .int .i64 ((cbOut D0 p0 S0 q0 R0 Q0 yy0 z1).1.z)] 51))
  replace g2 := Lib.hid (g2.out.alloc (by omega) (.cells #[.slice Ag ng cg, .int .i64 ((cbOut D0 p0 S0 q0 R0 Q0 yy0 z1).1.p), .slice Ag' ng' cg', .int .i64 ((cbOut D0 p0 S0 q0 R0 Q0 yy0 z1).1.q), .slice Eg mg dg, .slice Fg lg kg, .int .i64 ((cbOut D0 p0 S0 q0 R0 Q0 yy0 z1).1.z)] 51))
  replace g3 := Lib.hid (g3.out.alloc (by omega) (.cells #[.slice Ag ng cg, .int .i64 ((cbOut D0 p0 S0 q0 R0 Q0 yy0 z1).1.p), .slice Ag' ng' cg', .int .i64 ((cbOut D0 p0 S0 q0 R0 Q0 yy0 z1).1.q), .slice Eg mg dg, .slice Fg lg kg, .int .i64 ((cbOut D0 p0 S0 q0 R0 Q0 yy0 z1).1.z)] 51))
  replace g4 := Lib.hid (g4.out.alloc (by omega) (.cells #[.slice Ag ng cg, .int .i64 ((cbOut D0 p0 S0 q0 R0 Q0 yy0 z1).1.p), .slice Ag' ng' cg', .int .i64 ((cbOut D0 p0 S0 q0 R0 Q0 yy0 z1).1.q), .slice Eg mg dg, .slice Fg lg kg, .int .i64 ((cbOut D0 p0 S0 q0 R0 Q0 yy0 z1).1.z)] 51))
  replace EB := Lib.hid (EB.out.alloc (by omega) (.cells #[.slice Ag ng cg, .int .i64 ((cbOut D0 p0 S0 q0 R0 Q0 yy0 z1).1.p), .slice Ag' ng' cg', .int .i64 ((cbOut D0 p0 S0 q0 R0 Q0 yy0 z1).1.q), .slice Eg mg dg, .slice Fg lg kg, .int .i64 ((cbOut D0 p0 S0 q0 R0 Q0 yy0 z1).1.z)] 51))
  have Bg := Lib.hid (Box.new w7 51 [.slice Ag ng cg, .int .i64 ((cbOut D0 p0 S0 q0 R0 Q0 yy0 z1).1.p), .slice Ag' ng' cg', .int .i64 ((cbOut D0 p0 S0 q0 R0 Q0 yy0 z1).1.q), .slice Eg mg dg, .slice Fg lg kg, .int .i64 ((cbOut D0 p0 S0 q0 R0 Q0 yy0 z1).1.z)])
  have s8 : w7.heap.size + 1 ≤ (w7.alloc (.cells #[.slice Ag ng cg, .int .i64 ((cbOut D0 p0 S0 q0 R0 Q0 yy0 z1).1.p), .slice Ag' ng' cg', .int .i64 ((cbOut D0 p0 S0 q0 R0 Q0 yy0 z1).1.q), .slice Eg mg dg, .slice Fg lg kg, .int .i64 ((cbOut D0 p0 S0 q0 R0 Q0 yy0 z1).1.z)] 51)).heap.size := by simp
  generalize w7.alloc (.cells #[.slice Ag ng cg, .int .i64 ((cbOut D0 p0 S0 q0 R0 Q0 yy0 z1).1.p), .slice Ag' ng' cg', .int .i64 ((cbOut D0 p0 S0 q0 R0 Q0 yy0 z1).1.q), .slice Eg mg dg, .slice Fg lg kg, .int .i64 ((cbOut D0 p0 S0 q0 R0 Q0 yy0 z1).1.z)] 51) = w8 at *
  refine (eqBoth_same g1.out g2.out g3.out g4.out u1.out u2.out u3.out u4.out (by omega) (by omega) (by omega) (by omega) (by omega) (by omega) (by omega) (by omega)).mono ?_
  rintro e w9 ⟨rfl, hb⟩
  (try simp only [World.size_alloc, World.size_setCell, World.size_drew] at hb)
  have HB := Lib.hid hb
  clear hb
  have s9 := HB.out.size
  (try simp only [World.size_alloc, World.size_setCell, World.size_drew] at s9)
  replace a01 := Lib.hid (a01.out.below HB.out (by omega))
  replace a02 := Lib.hid (a02.out.below HB.out (by omega))
  replace a03 := Lib.hid (a03.out.below HB.out (by omega))
  replace a04 := Lib.hid (a04.out.below HB.out (by omega))
  replace Ba0 := Lib.hid (Ba0.out.below HB.out (by omega))
  replace u1 := Lib.hid (u1.out.below HB.out (by omega))
  replace u2 := Lib.hid (u2.out.below HB.out (by omega))
  replace u3 := Lib.hid (u3.out.below HB.out (by omega))
  replace u4 := Lib.hid (u4.out.below HB.out (by omega))
  replace Bu := Lib.hid (Bu.out.below HB.out (by omega))
  replace x01 := Lib.hid (x01.out.below HB.out (by omega))
  replace x02 := Lib.hid (x02.out.below HB.out (by omega))
  replace x03 := Lib.hid (x03.out.below HB.out (by omega))
  replace x04 := Lib.hid (x04.out.below HB.out (by omega))
  replace Bx0 := Lib.hid (Bx0.out.below HB.out (by omega))
  replace g1 := Lib.hid (g1.out.below HB.out (by omega))
  replace g2 := Lib.hid (g2.out.below HB.out (by omega))
  replace g3 := Lib.hid (g3.out.below HB.out (by omega))
  replace g4 := Lib.hid (g4.out.below HB.out (by omega))
  replace Bg := Lib.hid (Bg.out.below HB.out (by omega))
  replace EB := Lib.hid (below_step HB.out EB.out (by omega))
  clear HB
  have va0l := Ba0.out.lt
  have va00 := (Ba0.out.2 0 _ rfl).1
  have va01 := (Ba0.out.2 1 _ rfl).1
  have va02 := (Ba0.out.2 2 _ rfl).1
  have va03 := (Ba0.out.2 3 _ rfl).1
  have va04 := (Ba0.out.2 4 _ rfl).1
  have va05 := (Ba0.out.2 5 _ rfl).1
  have va06 := (Ba0.out.2 6 _ rfl).1
  have vx0l := Bx0.out.lt
  have vx00 := (Bx0.out.2 0 _ rfl).1
  have vx01 := (Bx0.out.2 1 _ rfl).1
  have vx02 := (Bx0.out.2 2 _ rfl).1
  have vx03 := (Bx0.out.2 3 _ rfl).1
  have vx04 := (Bx0.out.2 4 _ rfl).1
  have vx05 := (Bx0.out.2 5 _ rfl).1
  have vx06 := (Bx0.out.2 6 _ rfl).1
  go_wp2_with fail
  clear va0l va00 va01 va02 va03 va04 va05 va06 vx0l vx00 vx01 vx02 vx03 vx04 vx05 vx06
  have EC := Lib.hid EB.out
  have xl := Ba0.out.lt
  have x0 := (Ba0.out.2 0 _ rfl).1
  have x1 := (Ba0.out.2 1 _ rfl).1
  have x2 := (Ba0.out.2 2 _ rfl).1
  have x3 := (Ba0.out.2 3 _ rfl).1
  have x4 := (Ba0.out.2 4 _ rfl).1
  have x5 := (Ba0.out.2 5 _ rfl).1
  have x6 := (Ba0.out.2 6 _ rfl).1
  have yl := Bx0.out.lt
  have y0 := (Bx0.out.2 0 _ rfl).1
  have y1 := (Bx0.out.2 1 _ rfl).1
  have y2 := (Bx0.out.2 2 _ rfl).1
  have y3 := (Bx0.out.2 3 _ rfl).1
  have y4 := (Bx0.out.2 4 _ rfl).1
  have y5 := (Bx0.out.2 5 _ rfl).1
  have y6 := (Bx0.out.2 6 _ rfl).1
  go_region_held3 (fun w' => (w'.cell? ⟨w.heap.size, 0, none⟩ = some (.slice A0 n0 c0) ∧ w'.cell? ⟨w.heap.size, 1, none⟩ = some (.int .i64 (p0)) ∧ w'.cell? ⟨w.heap.size, 2, none⟩ = some (.slice A0' n0' c0') ∧ w'.cell? ⟨w.heap.size, 3, none⟩ = some (.int .i64 (q0)) ∧ w'.cell? ⟨w.heap.size, 4, none⟩ = some (.slice E0 m0 d0) ∧ w'.cell? ⟨w.heap.size, 5, none⟩ = some (.slice F0 l0 k0) ∧ w'.cell? ⟨w.heap.size, 6, none⟩ = some (.int .i64 (yy0))) ∧ (w'.cell? ⟨w5.heap.size, 0, none⟩ = some (.slice Ax0 nx0 cx0) ∧ w'.cell? ⟨w5.heap.size, 1, none⟩ = some (.int .i64 (p0)) ∧ w'.cell? ⟨w5.heap.size, 2, none⟩ = some (.slice Ax0' nx0' cx0') ∧ w'.cell? ⟨w5.heap.size, 3, none⟩ = some (.int .i64 (q0)) ∧ w'.cell? ⟨w5.heap.size, 4, none⟩ = some (.slice Ex0 mx0 dx0) ∧ w'.cell? ⟨w5.heap.size, 5, none⟩ = some (.slice Fx0 lx0 kx0) ∧ w'.cell? ⟨w5.heap.size, 6, none⟩ = some (.int .i64 (yy0)))) (go_keep)
    (first | (go_at_call 33; refine (toBoth_any a01.out.drew a02.out.drew a03.out.drew a04.out.drew (by first | omega | (simp; omega) | (simp; done)) (by first | omega | (simp; omega) | (simp; done)) (by first | omega | (simp; omega) | (simp; done)) (by first | omega | (simp; omega) | (simp; done)) hs0 hs0' hs0'' hs0''' hp0 hq0 hy0).mono ?_; rintro e w10 ⟨Ak, nk, ck, Ak', nk', ck', Ek, mk, dk, Fk, lk, kk, rfl, ⟨_, _, _, _⟩, hb, ⟨⟨⟨hd0, hd1, _, _, _⟩, hd2, _, _, _⟩, hd3, _, _, _⟩⟩; (try simp only [World.size_alloc, World.size_setCell, World.size_drew] at hb hd0 hd1 hd2 hd3); have HB := Lib.hid hb; have HK1 := Lib.hid hd0; have HK2 := Lib.hid hd1; have HK3 := Lib.hid hd2; have HK4 := Lib.hid hd3; have sa := hb.size; (try simp only [World.size_alloc, World.size_setCell, World.size_drew] at sa); have BA := Lib.hid (Ba0.out.drew.below hb (by omega)); have BX := Lib.hid (Bx0.out.drew.below hb (by omega)); clear hb hd0 hd1 hd2 hd3; have x0 := (BA.out.2 0 _ rfl).1; have x1 := (BA.out.2 1 _ rfl).1; have x2 := (BA.out.2 2 _ rfl).1; have x3 := (BA.out.2 3 _ rfl).1; have x4 := (BA.out.2 4 _ rfl).1; have x5 := (BA.out.2 5 _ rfl).1; have x6 := (BA.out.2 6 _ rfl).1; have y0 := (BX.out.2 0 _ rfl).1; have y1 := (BX.out.2 1 _ rfl).1; have y2 := (BX.out.2 2 _ rfl).1; have y3 := (BX.out.2 3 _ rfl).1; have y4 := (BX.out.2 4 _ rfl).1; have y5 := (BX.out.2 5 _ rfl).1; have y6 := (BX.out.2 6 _ rfl).1) | (go_at_call 35; refine (eqBoth_same (x01.out.drew.below HB.out (by omega)) (x02.out.drew.below HB.out (by omega)) (x03.out.drew.below HB.out (by omega)) (x04.out.drew.below HB.out (by omega)) HK1.out HK2.out HK3.out HK4.out (by omega) (by omega) (by omega) (by omega) (by omega) (by omega) (by omega) (by omega)).mono ?_; rintro e w11 ⟨rfl, hb⟩; have HC := Lib.hid hb; have sb := hb.size; have CA := Lib.hid (BA.out.below hb (by omega)); have CX := Lib.hid (BX.out.below hb (by omega)); clear hb; have x0 := (CA.out.2 0 _ rfl).1; have x1 := (CA.out.2 1 _ rfl).1; have x2 := (CA.out.2 2 _ rfl).1; have x3 := (CA.out.2 3 _ rfl).1; have x4 := (CA.out.2 4 _ rfl).1; have x5 := (CA.out.2 5 _ rfl).1; have x6 := (CA.out.2 6 _ rfl).1; have y0 := (CX.out.2 0 _ rfl).1; have y1 := (CX.out.2 1 _ rfl).1; have y2 := (CX.out.2 2 _ rfl).1; have y3 := (CX.out.2 3 _ rfl).1; have y4 := (CX.out.2 4 _ rfl).1; have y5 := (CX.out.2 5 _ rfl).1; have y6 := (CX.out.2 6 _ rfl).1))
  have HD : Hid (Below w9.heap.size w9 w11) := below_step HC.out (below_step HB.out (Below.refl _ _).drew (by simp)) (by omega)
  have s11 := HD.out.size
  clear xl x0 x1 x2 x3 x4 x5 x6 yl y0 y1 y2 y3 y4 y5 y6
  replace a01 := Lib.hid (a01.out.below HD.out (by omega))
  replace a02 := Lib.hid (a02.out.below HD.out (by omega))
  replace a03 := Lib.hid (a03.out.below HD.out (by omega))
  replace a04 := Lib.hid (a04.out.below HD.out (by omega))
  replace Ba0 := Lib.hid (Ba0.out.below HD.out (by omega))
  replace u1 := Lib.hid (u1.out.below HD.out (by omega))
  replace u2 := Lib.hid (u2.out.below HD.out (by omega))
  replace u3 := Lib.hid (u3.out.below HD.out (by omega))
  replace u4 := Lib.hid (u4.out.below HD.out (by omega))
  replace Bu := Lib.hid (Bu.out.below HD.out (by omega))
  replace x01 := Lib.hid (x01.out.below HD.out (by omega))
  replace x02 := Lib.hid (x02.out.below HD.out (by omega))
  replace x03 := Lib.hid (x03.out.below HD.out (by omega))
  replace x04 := Lib.hid (x04.out.below HD.out (by omega))
  replace Bx0 := Lib.hid (Bx0.out.below HD.out (by omega))
  replace g1 := Lib.hid (g1.out.below HD.out (by omega))
  replace g2 := Lib.hid (g2.out.below HD.out (by omega))
  replace g3 := Lib.hid (g3.out.below HD.out (by omega))
  replace g4 := Lib.hid (g4.out.below HD.out (by omega))
  replace Bg := Lib.hid (Bg.out.below HD.out (by omega))
  replace EB := Lib.hid (below_step HD.out EB.out (by omega))
  clear HB HC HD HK1 HK2 HK3 HK4 BA BX CA CX
  have vx0l := Bx0.out.lt
  have vx00 := (Bx0.out.2 0 _ rfl).1
  have vx01 := (Bx0.out.2 1 _ rfl).1
  have vx02 := (Bx0.out.2 2 _ rfl).1
  have vx03 := (Bx0.out.2 3 _ rfl).1
  have vx04 := (Bx0.out.2 4 _ rfl).1
  have vx05 := (Bx0.out.2 5 _ rfl).1
  have vx06 := (Bx0.out.2 6 _ rfl).1
  go_wp2_with fail
  refine (markBoth_any x01.out x02.out x03.out x04.out x01_x02.out x03_x01.out x03_x02.out x04_x01.out x04_x02.out x04_x03.out (by omega) (by omega) (by omega) (by omega) (by omega) (by omega) hx0 hx0' hx0'' hx0''').mono ?_
  clear vx0l vx00 vx01 vx02 vx03 vx04 vx05 vx06
  rintro e w12 ⟨rfl, hm, hi0, hi1, hi2, hi3⟩
  have HM := Lib.hid hm
  have s12 := HM.out.size
  clear hm
  replace EB := Lib.hid (below_markB EB.out HM.out x01.out x02.out x03.out x04.out (by omega) (by omega) (by omega) (by omega) (by omega))
  replace a01 := Lib.hid (a01.out.markB HM.out (by omega) (Apart.of_le a01.out x01.out (by omega)).symm (Apart.of_le a01.out x02.out (by omega)).symm (Apart.of_le a01.out x03.out (by omega)).symm (Apart.of_le a01.out x04.out (by omega)).symm)
  replace a02 := Lib.hid (a02.out.markB HM.out (by omega) (Apart.of_le a02.out x01.out (by omega)).symm (Apart.of_le a02.out x02.out (by omega)).symm (Apart.of_le a02.out x03.out (by omega)).symm (Apart.of_le a02.out x04.out (by omega)).symm)
  replace a03 := Lib.hid (a03.out.markB HM.out (by omega) (Apart.of_le a03.out x01.out (by omega)).symm (Apart.of_le a03.out x02.out (by omega)).symm (Apart.of_le a03.out x03.out (by omega)).symm (Apart.of_le a03.out x04.out (by omega)).symm)
  replace a04 := Lib.hid (a04.out.markB HM.out (by omega) (Apart.of_le a04.out x01.out (by omega)).symm (Apart.of_le a04.out x02.out (by omega)).symm (Apart.of_le a04.out x03.out (by omega)).symm (Apart.of_le a04.out x04.out (by omega)).symm)
  replace Ba0 := Lib.hid (Ba0.out.markB HM.out x01.out x02.out x03.out x04.out (by omega) (by omega) (by omega) (by omega))
  replace u1 := Lib.hid (u1.out.markB HM.out (by omega) (Apart.of_le u1.out x01.out (by omega)).symm (Apart.of_le u1.out x02.out (by omega)).symm (Apart.of_le u1.out x03.out (by omega)).symm (Apart.of_le u1.out x04.out (by omega)).symm)
  replace u2 := Lib.hid (u2.out.markB HM.out (by omega) (Apart.of_le u2.out x01.out (by omega)).symm (Apart.of_le u2.out x02.out (by omega)).symm (Apart.of_le u2.out x03.out (by omega)).symm (Apart.of_le u2.out x04.out (by omega)).symm)
  replace u3 := Lib.hid (u3.out.markB HM.out (by omega) (Apart.of_le u3.out x01.out (by omega)).symm (Apart.of_le u3.out x02.out (by omega)).symm (Apart.of_le u3.out x03.out (by omega)).symm (Apart.of_le u3.out x04.out (by omega)).symm)
  replace u4 := Lib.hid (u4.out.markB HM.out (by omega) (Apart.of_le u4.out x01.out (by omega)).symm (Apart.of_le u4.out x02.out (by omega)).symm (Apart.of_le u4.out x03.out (by omega)).symm (Apart.of_le u4.out x04.out (by omega)).symm)
  replace Bu := Lib.hid (Bu.out.markB HM.out x01.out x02.out x03.out x04.out (by omega) (by omega) (by omega) (by omega))
  replace Bx0 := Lib.hid (Bx0.out.markB HM.out x01.out x02.out x03.out x04.out (by omega) (by omega) (by omega) (by omega))
  replace g1 := Lib.hid (g1.out.markB HM.out (by omega) (Apart.of_le x01.out g1.out (by omega)) (Apart.of_le x02.out g1.out (by omega)) (Apart.of_le x03.out g1.out (by omega)) (Apart.of_le x04.out g1.out (by omega)))
  replace g2 := Lib.hid (g2.out.markB HM.out (by omega) (Apart.of_le x01.out g2.out (by omega)) (Apart.of_le x02.out g2.out (by omega)) (Apart.of_le x03.out g2.out (by omega)) (Apart.of_le x04.out g2.out (by omega)))
  replace g3 := Lib.hid (g3.out.markB HM.out (by omega) (Apart.of_le x01.out g3.out (by omega)) (Apart.of_le x02.out g3.out (by omega)) (Apart.of_le x03.out g3.out (by omega)) (Apart.of_le x04.out g3.out (by omega)))
  replace g4 := Lib.hid (g4.out.markB HM.out (by omega) (Apart.of_le x01.out g4.out (by omega)) (Apart.of_le x02.out g4.out (by omega)) (Apart.of_le x03.out g4.out (by omega)) (Apart.of_le x04.out g4.out (by omega)))
  replace Bg := Lib.hid (Bg.out.markB HM.out x01.out x02.out x03.out x04.out (by omega) (by omega) (by omega) (by omega))
  replace x01 := Lib.hid hi0
  replace x02 := Lib.hid hi1
  replace x03 := Lib.hid hi2
  replace x04 := Lib.hid hi3
  clear HM hi0 hi1 hi2 hi3
  clear x01 x02 x03 x04 Bx0
  have vgl := Bg.out.lt
  have vg0 := (Bg.out.2 0 _ rfl).1
  have vg1 := (Bg.out.2 1 _ rfl).1
  have vg2 := (Bg.out.2 2 _ rfl).1
  have vg3 := (Bg.out.2 3 _ rfl).1
  have vg4 := (Bg.out.2 4 _ rfl).1
  have vg5 := (Bg.out.2 5 _ rfl).1
  have vg6 := (Bg.out.2 6 _ rfl).1
  have vul := Bu.out.lt
  have vu0 := (Bu.out.2 0 _ rfl).1
  have vu1 := (Bu.out.2 1 _ rfl).1
  have vu2 := (Bu.out.2 2 _ rfl).1
  have vu3 := (Bu.out.2 3 _ rfl).1
  have vu4 := (Bu.out.2 4 _ rfl).1
  have vu5 := (Bu.out.2 5 _ rfl).1
  have vu6 := (Bu.out.2 6 _ rfl).1
  go_wp2_with fail
  refine (eqBoth_same g1.out g2.out g3.out g4.out u1.out u2.out u3.out u4.out (by omega) (by omega) (by omega) (by omega) (by omega) (by omega) (by omega) (by omega)).mono ?_
  clear vgl vg0 vg1 vg2 vg3 vg4 vg5 vg6 vul vu0 vu1 vu2 vu3 vu4 vu5 vu6
  rintro e w13 ⟨rfl, hb⟩
  (try simp only [World.size_alloc, World.size_setCell, World.size_drew] at hb)
  have HB := Lib.hid hb
  clear hb
  have s13 := HB.out.size
  (try simp only [World.size_alloc, World.size_setCell, World.size_drew] at s13)
  replace a01 := Lib.hid (a01.out.below HB.out (by omega))
  replace a02 := Lib.hid (a02.out.below HB.out (by omega))
  replace a03 := Lib.hid (a03.out.below HB.out (by omega))
  replace a04 := Lib.hid (a04.out.below HB.out (by omega))
  replace Ba0 := Lib.hid (Ba0.out.below HB.out (by omega))
  replace u1 := Lib.hid (u1.out.below HB.out (by omega))
  replace u2 := Lib.hid (u2.out.below HB.out (by omega))
  replace u3 := Lib.hid (u3.out.below HB.out (by omega))
  replace u4 := Lib.hid (u4.out.below HB.out (by omega))
  replace Bu := Lib.hid (Bu.out.below HB.out (by omega))
  replace g1 := Lib.hid (g1.out.below HB.out (by omega))
  replace g2 := Lib.hid (g2.out.below HB.out (by omega))
  replace g3 := Lib.hid (g3.out.below HB.out (by omega))
  replace g4 := Lib.hid (g4.out.below HB.out (by omega))
  replace Bg := Lib.hid (Bg.out.below HB.out (by omega))
  replace EB := Lib.hid (below_step HB.out EB.out (by omega))
  clear HB
  have vgl := Bg.out.lt
  have vg0 := (Bg.out.2 0 _ rfl).1
  have vg1 := (Bg.out.2 1 _ rfl).1
  have vg2 := (Bg.out.2 2 _ rfl).1
  have vg3 := (Bg.out.2 3 _ rfl).1
  have vg4 := (Bg.out.2 4 _ rfl).1
  have vg5 := (Bg.out.2 5 _ rfl).1
  have vg6 := (Bg.out.2 6 _ rfl).1
  go_wp2_with fail
  refine (markBoth_any g1.out g2.out g3.out g4.out g1_g2.out g3_g1.out g3_g2.out g4_g1.out g4_g2.out g4_g3.out (by omega) (by omega) (by omega) (by omega) (by omega) (by omega) hl_g1 hl_g2 hl_g3 hl_g4).mono ?_
  clear vgl vg0 vg1 vg2 vg3 vg4 vg5 vg6
  rintro e w14 ⟨rfl, hm, hi0, hi1, hi2, hi3⟩
  have HM := Lib.hid hm
  have s14 := HM.out.size
  clear hm
  replace EB := Lib.hid (below_markB EB.out HM.out g1.out g2.out g3.out g4.out (by omega) (by omega) (by omega) (by omega) (by omega))
  replace a01 := Lib.hid (a01.out.markB HM.out (by omega) (Apart.of_le a01.out g1.out (by omega)).symm (Apart.of_le a01.out g2.out (by omega)).symm (Apart.of_le a01.out g3.out (by omega)).symm (Apart.of_le a01.out g4.out (by omega)).symm)
  replace a02 := Lib.hid (a02.out.markB HM.out (by omega) (Apart.of_le a02.out g1.out (by omega)).symm (Apart.of_le a02.out g2.out (by omega)).symm (Apart.of_le a02.out g3.out (by omega)).symm (Apart.of_le a02.out g4.out (by omega)).symm)
  replace a03 := Lib.hid (a03.out.markB HM.out (by omega) (Apart.of_le a03.out g1.out (by omega)).symm (Apart.of_le a03.out g2.out (by omega)).symm (Apart.of_le a03.out g3.out (by omega)).symm (Apart.of_le a03.out g4.out (by omega)).symm)
  replace a04 := Lib.hid (a04.out.markB HM.out (by omega) (Apart.of_le a04.out g1.out (by omega)).symm (Apart.of_le a04.out g2.out (by omega)).symm (Apart.of_le a04.out g3.out (by omega)).symm (Apart.of_le a04.out g4.out (by omega)).symm)
  replace Ba0 := Lib.hid (Ba0.out.markB HM.out g1.out g2.out g3.out g4.out (by omega) (by omega) (by omega) (by omega))
  replace u1 := Lib.hid (u1.out.markB HM.out (by omega) (Apart.of_le u1.out g1.out (by omega)).symm (Apart.of_le u1.out g2.out (by omega)).symm (Apart.of_le u1.out g3.out (by omega)).symm (Apart.of_le u1.out g4.out (by omega)).symm)
  replace u2 := Lib.hid (u2.out.markB HM.out (by omega) (Apart.of_le u2.out g1.out (by omega)).symm (Apart.of_le u2.out g2.out (by omega)).symm (Apart.of_le u2.out g3.out (by omega)).symm (Apart.of_le u2.out g4.out (by omega)).symm)
  replace u3 := Lib.hid (u3.out.markB HM.out (by omega) (Apart.of_le u3.out g1.out (by omega)).symm (Apart.of_le u3.out g2.out (by omega)).symm (Apart.of_le u3.out g3.out (by omega)).symm (Apart.of_le u3.out g4.out (by omega)).symm)
  replace u4 := Lib.hid (u4.out.markB HM.out (by omega) (Apart.of_le u4.out g1.out (by omega)).symm (Apart.of_le u4.out g2.out (by omega)).symm (Apart.of_le u4.out g3.out (by omega)).symm (Apart.of_le u4.out g4.out (by omega)).symm)
  replace Bu := Lib.hid (Bu.out.markB HM.out g1.out g2.out g3.out g4.out (by omega) (by omega) (by omega) (by omega))
  replace Bg := Lib.hid (Bg.out.markB HM.out g1.out g2.out g3.out g4.out (by omega) (by omega) (by omega) (by omega))
  replace g1 := Lib.hid hi0
  replace g2 := Lib.hid hi1
  replace g3 := Lib.hid hi2
  replace g4 := Lib.hid hi3
  clear HM hi0 hi1 hi2 hi3
  have vgl := Bg.out.lt
  have vg0 := (Bg.out.2 0 _ rfl).1
  have vg1 := (Bg.out.2 1 _ rfl).1
  have vg2 := (Bg.out.2 2 _ rfl).1
  have vg3 := (Bg.out.2 3 _ rfl).1
  have vg4 := (Bg.out.2 4 _ rfl).1
  have vg5 := (Bg.out.2 5 _ rfl).1
  have vg6 := (Bg.out.2 6 _ rfl).1
  go_wp2_with fail
  refine (heldBoth_any g1.out g2.out g3.out g4.out (by omega) (by omega) (by omega) (by omega) (by omega) (by omega) hl_g1 hl_g2 hl_g3 hl_g4).mono ?_
  clear vgl vg0 vg1 vg2 vg3 vg4 vg5 vg6
  rintro e w15 ⟨rfl, hb⟩
  (try simp only [World.size_alloc, World.size_setCell, World.size_drew] at hb)
  have HB := Lib.hid hb
  clear hb
  have s15 := HB.out.size
  (try simp only [World.size_alloc, World.size_setCell, World.size_drew] at s15)
  replace a01 := Lib.hid (a01.out.below HB.out (by omega))
  replace a02 := Lib.hid (a02.out.below HB.out (by omega))
  replace a03 := Lib.hid (a03.out.below HB.out (by omega))
  replace a04 := Lib.hid (a04.out.below HB.out (by omega))
  replace Ba0 := Lib.hid (Ba0.out.below HB.out (by omega))
  replace u1 := Lib.hid (u1.out.below HB.out (by omega))
  replace u2 := Lib.hid (u2.out.below HB.out (by omega))
  replace u3 := Lib.hid (u3.out.below HB.out (by omega))
  replace u4 := Lib.hid (u4.out.below HB.out (by omega))
  replace Bu := Lib.hid (Bu.out.below HB.out (by omega))
  replace g1 := Lib.hid (g1.out.below HB.out (by omega))
  replace g2 := Lib.hid (g2.out.below HB.out (by omega))
  replace g3 := Lib.hid (g3.out.below HB.out (by omega))
  replace g4 := Lib.hid (g4.out.below HB.out (by omega))
  replace Bg := Lib.hid (Bg.out.below HB.out (by omega))
  replace EB := Lib.hid (below_step HB.out EB.out (by omega))
  clear HB
  have va0l := Ba0.out.lt
  have va00 := (Ba0.out.2 0 _ rfl).1
  have va01 := (Ba0.out.2 1 _ rfl).1
  have va02 := (Ba0.out.2 2 _ rfl).1
  have va03 := (Ba0.out.2 3 _ rfl).1
  have va04 := (Ba0.out.2 4 _ rfl).1
  have va05 := (Ba0.out.2 5 _ rfl).1
  have va06 := (Ba0.out.2 6 _ rfl).1
  go_wp2_with fail
  refine (toBoth_any a01.out a02.out a03.out a04.out (by omega) (by omega) (by omega) (by omega) hs0 hs0' hs0'' hs0''' hp0 hq0 hy0).mono ?_
  clear va0l va00 va01 va02 va03 va04 va05 va06
  rintro e w16 ⟨Ar0, nr0, cr0, Ar0', nr0', cr0', Er0, mr0, dr0, Fr0, lr0, kr0, rfl, ⟨hcr0, hcr0', hcr0'', hcr0'''⟩, hb, ⟨⟨⟨hd0, hd1, ha0, _, _⟩, hd2, ha1, ha2, _⟩, hd3, ha3, ha4, ha5⟩⟩
  (try simp only [World.size_alloc, World.size_setCell, World.size_drew] at hb)
  have HB := Lib.hid hb
  clear hb
  have s16 := HB.out.size
  (try simp only [World.size_alloc, World.size_setCell, World.size_drew] at s16)
  replace a01 := Lib.hid (a01.out.below HB.out (by omega))
  replace a02 := Lib.hid (a02.out.below HB.out (by omega))
  replace a03 := Lib.hid (a03.out.below HB.out (by omega))
  replace a04 := Lib.hid (a04.out.below HB.out (by omega))
  replace Ba0 := Lib.hid (Ba0.out.below HB.out (by omega))
  replace u1 := Lib.hid (u1.out.below HB.out (by omega))
  replace u2 := Lib.hid (u2.out.below HB.out (by omega))
  replace u3 := Lib.hid (u3.out.below HB.out (by omega))
  replace u4 := Lib.hid (u4.out.below HB.out (by omega))
  replace Bu := Lib.hid (Bu.out.below HB.out (by omega))
  replace g1 := Lib.hid (g1.out.below HB.out (by omega))
  replace g2 := Lib.hid (g2.out.below HB.out (by omega))
  replace g3 := Lib.hid (g3.out.below HB.out (by omega))
  replace g4 := Lib.hid (g4.out.below HB.out (by omega))
  replace Bg := Lib.hid (Bg.out.below HB.out (by omega))
  replace EB := Lib.hid (below_step HB.out EB.out (by omega))
  clear HB
  have r01 := Lib.hid hd0
  have r02 := Lib.hid hd1
  have r03 := Lib.hid hd2
  have r04 := Lib.hid hd3
  have r01_r02 := Lib.hid ha0
  have r03_r01 := Lib.hid ha1
  have r03_r02 := Lib.hid ha2
  have r04_r01 := Lib.hid ha3
  have r04_r02 := Lib.hid ha4
  have r04_r03 := Lib.hid ha5
  clear hd0 hd1 hd2 hd3 ha0 ha1 ha2 ha3 ha4 ha5
  have hr0 : nr0 ≤ 1048576 := by have := r01.out.len; have := HLa0.out; omega
  have hr0' : nr0' ≤ 1048576 := by have := r02.out.len; have := HLb0.out; omega
  have hr0'' : mr0 ≤ 1048576 := by have := r03.out.len; have := HLc0.out; omega
  have hr0''' : lr0 ≤ 1048576 := by have := r04.out.len; have := HLd0.out; omega
  go_wp2_with fail
  refine (CutBoth_x (HE.below EB.out (Nat.le_refl _)) EB.out.size r01.out r02.out r03.out r04.out (by omega) (by omega) (by omega) (by omega) hcr0 hcr0' hcr0'' hcr0''' hr0 hr0' hr0'' hr0''' hz1).mono ?_
  rintro e w17 ⟨Ah, nh, ch, Ah', nh', ch', Eh, mh, dh, Fh, lh, kh, rfl, ⟨hch, hch', hch'', hch'''⟩, hb, ⟨⟨⟨hd0, hd1, ha0, _, _⟩, hd2, ha1, ha2, _⟩, hd3, ha3, ha4, ha5⟩⟩
  (try simp only [World.size_alloc, World.size_setCell, World.size_drew] at hb)
  have HB := Lib.hid hb
  clear hb
  have s17 := HB.out.size
  (try simp only [World.size_alloc, World.size_setCell, World.size_drew] at s17)
  replace a01 := Lib.hid (a01.out.below HB.out (by omega))
  replace a02 := Lib.hid (a02.out.below HB.out (by omega))
  replace a03 := Lib.hid (a03.out.below HB.out (by omega))
  replace a04 := Lib.hid (a04.out.below HB.out (by omega))
  replace Ba0 := Lib.hid (Ba0.out.below HB.out (by omega))
  replace u1 := Lib.hid (u1.out.below HB.out (by omega))
  replace u2 := Lib.hid (u2.out.below HB.out (by omega))
  replace u3 := Lib.hid (u3.out.below HB.out (by omega))
  replace u4 := Lib.hid (u4.out.below HB.out (by omega))
  replace Bu := Lib.hid (Bu.out.below HB.out (by omega))
  replace g1 := Lib.hid (g1.out.below HB.out (by omega))
  replace g2 := Lib.hid (g2.out.below HB.out (by omega))
  replace g3 := Lib.hid (g3.out.below HB.out (by omega))
  replace g4 := Lib.hid (g4.out.below HB.out (by omega))
  replace Bg := Lib.hid (Bg.out.below HB.out (by omega))
  replace r01 := Lib.hid (r01.out.below HB.out (by omega))
  replace r02 := Lib.hid (r02.out.below HB.out (by omega))
  replace r03 := Lib.hid (r03.out.below HB.out (by omega))
  replace r04 := Lib.hid (r04.out.below HB.out (by omega))
  replace EB := Lib.hid (below_step HB.out EB.out (by omega))
  clear HB
  have h1 := Lib.hid hd0
  have h2 := Lib.hid hd1
  have h3 := Lib.hid hd2
  have h4 := Lib.hid hd3
  clear hd0 hd1 hd2 hd3
  have h1_h2 := Lib.hid ha0
  clear ha0
  have h3_h1 := Lib.hid ha1
  clear ha1
  have h3_h2 := Lib.hid ha2
  clear ha2
  have h4_h1 := Lib.hid ha3
  clear ha3
  have h4_h2 := Lib.hid ha4
  clear ha4
  have h4_h3 := Lib.hid ha5
  clear ha5
  obtain ⟨hx0, hx1, hx2, hx3⟩ := cbOut_le D0 p0 S0 q0 R0 Q0 yy0 z1
  have hl_h1 : nh ≤ 1048576 := by have := h1.out.len; omega
  have hl_h2 : nh' ≤ 1048576 := by have := h2.out.len; omega
  have hl_h3 : mh ≤ 1048576 := by have := h3.out.len; omega
  have hl_h4 : lh ≤ 1048576 := by have := h4.out.len; omega
  clear hx0 hx1 hx2 hx3
  clear r01 r02 r03 r04
  have vul := Bu.out.lt
  have vu0 := (Bu.out.2 0 _ rfl).1
  have vu1 := (Bu.out.2 1 _ rfl).1
  have vu2 := (Bu.out.2 2 _ rfl).1
  have vu3 := (Bu.out.2 3 _ rfl).1
  have vu4 := (Bu.out.2 4 _ rfl).1
  have vu5 := (Bu.out.2 5 _ rfl).1
  have vu6 := (Bu.out.2 6 _ rfl).1
  go_wp2_with fail
  clear vul vu0 vu1 vu2 vu3 vu4 vu5 vu6
  replace a01 := Lib.hid (a01.out.alloc (by omega) (.cells #[.slice Ah nh ch, .int .i64 ((cbOut D0 p0 S0 q0 R0 Q0 yy0 z1).1.p), .slice Ah' nh' ch', .int .i64 ((cbOut D0 p0 S0 q0 R0 Q0 yy0 z1).1.q), .slice Eh mh dh, .slice Fh lh kh, .int .i64 ((cbOut D0 p0 S0 q0 R0 Q0 yy0 z1).1.z)] 51))
  replace a02 := Lib.hid (a02.out.alloc (by omega) (.cells #[.slice Ah nh ch, .int .i64 ((cbOut D0 p0 S0 q0 R0 Q0 yy0 z1).1.p), .slice Ah' nh' ch', .int .i64 ((cbOut D0 p0 S0 q0 R0 Q0 yy0 z1).1.q), .slice Eh mh dh, .slice Fh lh kh, .int .i64 ((cbOut D0 p0 S0 q0 R0 Q0 yy0 z1).1.z)] 51))
  replace a03 := Lib.hid (a03.out.alloc (by omega) (.cells #[.slice Ah nh ch, .int .i64 ((cbOut D0 p0 S0 q0 R0 Q0 yy0 z1).1.p), .slice Ah' nh' ch', .int .i64 ((cbOut D0 p0 S0 q0 R0 Q0 yy0 z1).1.q), .slice Eh mh dh, .slice Fh lh kh, .int .i64 ((cbOut D0 p0 S0 q0 R0 Q0 yy0 z1).1.z)] 51))
  replace a04 := Lib.hid (a04.out.alloc (by omega) (.cells #[.slice Ah nh ch, .int .i64 ((cbOut D0 p0 S0 q0 R0 Q0 yy0 z1).1.p), .slice Ah' nh' ch', .int .i64 ((cbOut D0 p0 S0 q0 R0 Q0 yy0 z1).1.q), .slice Eh mh dh, .slice Fh lh kh, .int .i64 ((cbOut D0 p0 S0 q0 R0 Q0 yy0 z1).1.z)] 51))
  replace Ba0 := Lib.hid (Ba0.out.alloc (.cells #[.slice Ah nh ch, .int .i64 ((cbOut D0 p0 S0 q0 R0 Q0 yy0 z1).1.p), .slice Ah' nh' ch', .int .i64 ((cbOut D0 p0 S0 q0 R0 Q0 yy0 z1).1.q), .slice Eh mh dh, .slice Fh lh kh, .int .i64 ((cbOut D0 p0 S0 q0 R0 Q0 yy0 z1).1.z)] 51))
  replace u1 := Lib.hid (u1.out.alloc (by omega) (.cells #[.slice Ah nh ch, .int .i64 ((cbOut D0 p0 S0 q0 R0 Q0 yy0 z1).1.p), .slice Ah' nh' ch', .int .i64 ((cbOut D0 p0 S0 q0 R0 Q0 yy0 z1).1.q), .slice Eh mh dh, .slice Fh lh kh, .int .i64 ((cbOut D0 p0 S0 q0 R0 Q0 yy0 z1).1.z)] 51))
  replace u2 := Lib.hid (u2.out.alloc (by omega) (.cells #[.slice Ah nh ch, .int .i64 ((cbOut D0 p0 S0 q0 R0 Q0 yy0 z1).1.p), .slice Ah' nh' ch', .int .i64 ((cbOut D0 p0 S0 q0 R0 Q0 yy0 z1).1.q), .slice Eh mh dh, .slice Fh lh kh, .int .i64 ((cbOut D0 p0 S0 q0 R0 Q0 yy0 z1).1.z)] 51))
  replace u3 := Lib.hid (u3.out.alloc (by omega) (.cells #[.slice Ah nh ch, .int .i64 ((cbOut D0 p0 S0 q0 R0 Q0 yy0 z1).1.p), .slice Ah' nh' ch', .int .i64 ((cbOut D0 p0 S0 q0 R0 Q0 yy0 z1).1.q), .slice Eh mh dh, .slice Fh lh kh, .int .i64 ((cbOut D0 p0 S0 q0 R0 Q0 yy0 z1).1.z)] 51))
  replace u4 := Lib.hid (u4.out.alloc (by omega) (.cells #[.slice Ah nh ch, .int .i64 ((cbOut D0 p0 S0 q0 R0 Q0 yy0 z1).1.p), .slice Ah' nh' ch', .int .i64 ((cbOut D0 p0 S0 q0 R0 Q0 yy0 z1).1.q), .slice Eh mh dh, .slice Fh lh kh, .int .i64 ((cbOut D0 p0 S0 q0 R0 Q0 yy0 z1).1.z)] 51))
  replace Bu := Lib.hid (Bu.out.alloc (.cells #[.slice Ah nh ch, .int .i64 ((cbOut D0 p0 S0 q0 R0 Q0 yy0 z1).1.p), .slice Ah' nh' ch', .int .i64 ((cbOut D0 p0 S0 q0 R0 Q0 yy0 z1).1.q), .slice Eh mh dh, .slice Fh lh kh, .int .i64 ((cbOut D0 p0 S0 q0 R0 Q0 yy0 z1).1.z)] 51))
  replace g1 := Lib.hid (g1.out.alloc (by omega) (.cells #[.slice Ah nh ch, .int .i64 ((cbOut D0 p0 S0 q0 R0 Q0 yy0 z1).1.p), .slice Ah' nh' ch', .int .i64 ((cbOut D0 p0 S0 q0 R0 Q0 yy0 z1).1.q), .slice Eh mh dh, .slice Fh lh kh, .int .i64 ((cbOut D0 p0 S0 q0 R0 Q0 yy0 z1).1.z)] 51))
  replace g2 := Lib.hid (g2.out.alloc (by omega) (.cells #[.slice Ah nh ch, .int .i64 ((cbOut D0 p0 S0 q0 R0 Q0 yy0 z1).1.p), .slice Ah' nh' ch', .int .i64 ((cbOut D0 p0 S0 q0 R0 Q0 yy0 z1).1.q), .slice Eh mh dh, .slice Fh lh kh, .int .i64 ((cbOut D0 p0 S0 q0 R0 Q0 yy0 z1).1.z)] 51))
  replace g3 := Lib.hid (g3.out.alloc (by omega) (.cells #[.slice Ah nh ch, .int .i64 ((cbOut D0 p0 S0 q0 R0 Q0 yy0 z1).1.p), .slice Ah' nh' ch', .int .i64 ((cbOut D0 p0 S0 q0 R0 Q0 yy0 z1).1.q), .slice Eh mh dh, .slice Fh lh kh, .int .i64 ((cbOut D0 p0 S0 q0 R0 Q0 yy0 z1).1.z)] 51))
  replace g4 := Lib.hid (g4.out.alloc (by omega) (.cells #[.slice Ah nh ch, .int .i64 ((cbOut D0 p0 S0 q0 R0 Q0 yy0 z1).1.p), .slice Ah' nh' ch', .int .i64 ((cbOut D0 p0 S0 q0 R0 Q0 yy0 z1).1.q), .slice Eh mh dh, .slice Fh lh kh, .int .i64 ((cbOut D0 p0 S0 q0 R0 Q0 yy0 z1).1.z)] 51))
  replace Bg := Lib.hid (Bg.out.alloc (.cells #[.slice Ah nh ch, .int .i64 ((cbOut D0 p0 S0 q0 R0 Q0 yy0 z1).1.p), .slice Ah' nh' ch', .int .i64 ((cbOut D0 p0 S0 q0 R0 Q0 yy0 z1).1.q), .slice Eh mh dh, .slice Fh lh kh, .int .i64 ((cbOut D0 p0 S0 q0 R0 Q0 yy0 z1).1.z)] 51))
  replace h1 := Lib.hid (h1.out.alloc (by omega) (.cells #[.slice Ah nh ch, .int .i64 ((cbOut D0 p0 S0 q0 R0 Q0 yy0 z1).1.p), .slice Ah' nh' ch', .int .i64 ((cbOut D0 p0 S0 q0 R0 Q0 yy0 z1).1.q), .slice Eh mh dh, .slice Fh lh kh, .int .i64 ((cbOut D0 p0 S0 q0 R0 Q0 yy0 z1).1.z)] 51))
  replace h2 := Lib.hid (h2.out.alloc (by omega) (.cells #[.slice Ah nh ch, .int .i64 ((cbOut D0 p0 S0 q0 R0 Q0 yy0 z1).1.p), .slice Ah' nh' ch', .int .i64 ((cbOut D0 p0 S0 q0 R0 Q0 yy0 z1).1.q), .slice Eh mh dh, .slice Fh lh kh, .int .i64 ((cbOut D0 p0 S0 q0 R0 Q0 yy0 z1).1.z)] 51))
  replace h3 := Lib.hid (h3.out.alloc (by omega) (.cells #[.slice Ah nh ch, .int .i64 ((cbOut D0 p0 S0 q0 R0 Q0 yy0 z1).1.p), .slice Ah' nh' ch', .int .i64 ((cbOut D0 p0 S0 q0 R0 Q0 yy0 z1).1.q), .slice Eh mh dh, .slice Fh lh kh, .int .i64 ((cbOut D0 p0 S0 q0 R0 Q0 yy0 z1).1.z)] 51))
  replace h4 := Lib.hid (h4.out.alloc (by omega) (.cells #[.slice Ah nh ch, .int .i64 ((cbOut D0 p0 S0 q0 R0 Q0 yy0 z1).1.p), .slice Ah' nh' ch', .int .i64 ((cbOut D0 p0 S0 q0 R0 Q0 yy0 z1).1.q), .slice Eh mh dh, .slice Fh lh kh, .int .i64 ((cbOut D0 p0 S0 q0 R0 Q0 yy0 z1).1.z)] 51))
  replace EB := Lib.hid (EB.out.alloc (by omega) (.cells #[.slice Ah nh ch, .int .i64 ((cbOut D0 p0 S0 q0 R0 Q0 yy0 z1).1.p), .slice Ah' nh' ch', .int .i64 ((cbOut D0 p0 S0 q0 R0 Q0 yy0 z1).1.q), .slice Eh mh dh, .slice Fh lh kh, .int .i64 ((cbOut D0 p0 S0 q0 R0 Q0 yy0 z1).1.z)] 51))
  have Bh := Lib.hid (Box.new w17 51 [.slice Ah nh ch, .int .i64 ((cbOut D0 p0 S0 q0 R0 Q0 yy0 z1).1.p), .slice Ah' nh' ch', .int .i64 ((cbOut D0 p0 S0 q0 R0 Q0 yy0 z1).1.q), .slice Eh mh dh, .slice Fh lh kh, .int .i64 ((cbOut D0 p0 S0 q0 R0 Q0 yy0 z1).1.z)])
  have s18 : w17.heap.size + 1 ≤ (w17.alloc (.cells #[.slice Ah nh ch, .int .i64 ((cbOut D0 p0 S0 q0 R0 Q0 yy0 z1).1.p), .slice Ah' nh' ch', .int .i64 ((cbOut D0 p0 S0 q0 R0 Q0 yy0 z1).1.q), .slice Eh mh dh, .slice Fh lh kh, .int .i64 ((cbOut D0 p0 S0 q0 R0 Q0 yy0 z1).1.z)] 51)).heap.size := by simp
  generalize w17.alloc (.cells #[.slice Ah nh ch, .int .i64 ((cbOut D0 p0 S0 q0 R0 Q0 yy0 z1).1.p), .slice Ah' nh' ch', .int .i64 ((cbOut D0 p0 S0 q0 R0 Q0 yy0 z1).1.q), .slice Eh mh dh, .slice Fh lh kh, .int .i64 ((cbOut D0 p0 S0 q0 R0 Q0 yy0 z1).1.z)] 51) = w18 at *
  refine (eqBoth_same h1.out h2.out h3.out h4.out u1.out u2.out u3.out u4.out (by omega) (by omega) (by omega) (by omega) (by omega) (by omega) (by omega) (by omega)).mono ?_
  rintro e w19 ⟨rfl, hb⟩
  (try simp only [World.size_alloc, World.size_setCell, World.size_drew] at hb)
  have HB := Lib.hid hb
  clear hb
  have s19 := HB.out.size
  (try simp only [World.size_alloc, World.size_setCell, World.size_drew] at s19)
  replace a01 := Lib.hid (a01.out.below HB.out (by omega))
  replace a02 := Lib.hid (a02.out.below HB.out (by omega))
  replace a03 := Lib.hid (a03.out.below HB.out (by omega))
  replace a04 := Lib.hid (a04.out.below HB.out (by omega))
  replace Ba0 := Lib.hid (Ba0.out.below HB.out (by omega))
  replace u1 := Lib.hid (u1.out.below HB.out (by omega))
  replace u2 := Lib.hid (u2.out.below HB.out (by omega))
  replace u3 := Lib.hid (u3.out.below HB.out (by omega))
  replace u4 := Lib.hid (u4.out.below HB.out (by omega))
  replace Bu := Lib.hid (Bu.out.below HB.out (by omega))
  replace g1 := Lib.hid (g1.out.below HB.out (by omega))
  replace g2 := Lib.hid (g2.out.below HB.out (by omega))
  replace g3 := Lib.hid (g3.out.below HB.out (by omega))
  replace g4 := Lib.hid (g4.out.below HB.out (by omega))
  replace Bg := Lib.hid (Bg.out.below HB.out (by omega))
  replace h1 := Lib.hid (h1.out.below HB.out (by omega))
  replace h2 := Lib.hid (h2.out.below HB.out (by omega))
  replace h3 := Lib.hid (h3.out.below HB.out (by omega))
  replace h4 := Lib.hid (h4.out.below HB.out (by omega))
  replace Bh := Lib.hid (Bh.out.below HB.out (by omega))
  replace EB := Lib.hid (below_step HB.out EB.out (by omega))
  clear HB
  have vgl := Bg.out.lt
  have vg0 := (Bg.out.2 0 _ rfl).1
  have vg1 := (Bg.out.2 1 _ rfl).1
  have vg2 := (Bg.out.2 2 _ rfl).1
  have vg3 := (Bg.out.2 3 _ rfl).1
  have vg4 := (Bg.out.2 4 _ rfl).1
  have vg5 := (Bg.out.2 5 _ rfl).1
  have vg6 := (Bg.out.2 6 _ rfl).1
  go_wp2_with fail
  refine (heldBoth_any g1.out g2.out g3.out g4.out (by omega) (by omega) (by omega) (by omega) (by omega) (by omega) hl_g1 hl_g2 hl_g3 hl_g4).mono ?_
  clear vgl vg0 vg1 vg2 vg3 vg4 vg5 vg6
  rintro e w20 ⟨rfl, hb⟩
  (try simp only [World.size_alloc, World.size_setCell, World.size_drew] at hb)
  have HB := Lib.hid hb
  clear hb
  have s20 := HB.out.size
  (try simp only [World.size_alloc, World.size_setCell, World.size_drew] at s20)
  replace a01 := Lib.hid (a01.out.below HB.out (by omega))
  replace a02 := Lib.hid (a02.out.below HB.out (by omega))
  replace a03 := Lib.hid (a03.out.below HB.out (by omega))
  replace a04 := Lib.hid (a04.out.below HB.out (by omega))
  replace Ba0 := Lib.hid (Ba0.out.below HB.out (by omega))
  replace u1 := Lib.hid (u1.out.below HB.out (by omega))
  replace u2 := Lib.hid (u2.out.below HB.out (by omega))
  replace u3 := Lib.hid (u3.out.below HB.out (by omega))
  replace u4 := Lib.hid (u4.out.below HB.out (by omega))
  replace Bu := Lib.hid (Bu.out.below HB.out (by omega))
  replace g1 := Lib.hid (g1.out.below HB.out (by omega))
  replace g2 := Lib.hid (g2.out.below HB.out (by omega))
  replace g3 := Lib.hid (g3.out.below HB.out (by omega))
  replace g4 := Lib.hid (g4.out.below HB.out (by omega))
  replace Bg := Lib.hid (Bg.out.below HB.out (by omega))
  replace h1 := Lib.hid (h1.out.below HB.out (by omega))
  replace h2 := Lib.hid (h2.out.below HB.out (by omega))
  replace h3 := Lib.hid (h3.out.below HB.out (by omega))
  replace h4 := Lib.hid (h4.out.below HB.out (by omega))
  replace Bh := Lib.hid (Bh.out.below HB.out (by omega))
  replace EB := Lib.hid (below_step HB.out EB.out (by omega))
  clear HB
  go_wp2
  go_ret
  exact ⟨rfl, EB.out⟩

theorem contract (H : Type) (enc : TypeId × Value → H) (W : World) (base : Nat) (args : Array Value) (ds gs : List (DataW H)) (before : List MemPlace)
    (hval : ∀ (j : Nat) t v, Tryd.f12.params[j]? = some t → args[j]? = some v → Value.okWide Tryd.prog W .any base t v)
    (hW : DataW.Whole enc Tryd.prog Tryd.f12.params.toList Rows.fnExactCutBothSpec.vars false W args.toList ds gs before) (hL : laidMetH Tryd.prog laid3 W) :
    Calls Tryd.prog 12 args W fun e W' => ∃ v, e = .returned v ∧ Rows.fnExactCutBothSpec.post enc Tryd.prog Tryd.f12 false true false false W args v W' := by
  have hW' := hW
  have hlt : ∀ p ∈ before, p.block < W.heap.size := fun p hp => hW.lt p hp
  obtain ⟨p, q, hA0, hV0, rfl, hfz, hnd⟩ := hW
  have hA : DataW.TrodAll enc Tryd.prog W 0 (fun _ => true) true Tryd.f12.params.toList args.toList ds p := hA0
  have hV : DataW.TrodVars enc Tryd.prog W (fun _ => true) ["loop.example/streamlayers/impl.errNone", "loop.example/streamlayers/impl.errFault", "loop.example/streamlayers/impl.errFull"] gs q := hV0
  rw [Tryd.params12] at hA hval
  obtain ⟨v0, vs0, d0, ds0, p0, q0, hargs, rfl, rfl, h0, r0⟩ := trodAll_cons hA
  obtain ⟨v1, vs1, d1, ds1, p1, q1, rfl, rfl, rfl, h1, r1⟩ := trodAll_cons r0
  obtain ⟨rfl, rfl, rfl⟩ := trodAll_nil r1
  obtain rfl : args = #[v0, v1] := by cases args; simp_all
  obtain ⟨a0, a1, a2, ⟨hv0, hv1, hv2⟩, ⟨n01, n02, n12⟩, w0, w1, w2⟩ := laid3_gives hL
  have hE := errs_of hv0 hv1 hv2 n01 n02 n12 w0 w1 w2
  have lt0 := hE.1.1.1
  have lt1 := hE.1.1.2.1
  have lt2 := hE.1.1.2.2
  have vr : ∀ {X : World}, Below W.heap.size W X → ∀ sp : Nat → Bool, DataW.TrodVars enc Tryd.prog X sp ["loop.example/streamlayers/impl.errNone", "loop.example/streamlayers/impl.errFault", "loop.example/streamlayers/impl.errFull"] [tok enc (errAt a0), tok enc (errAt a1), tok enc (errAt a2)] [.cell 0 0, .cell 1 0, .cell 2 0] := fun hb sp => vars_read3 enc (var?_below hb (by kernel_rfl) lt0 hv0) (var?_below hb (by kernel_rfl) lt1 hv1) (var?_below hb (by kernel_rfl) lt2 hv2) trivial trivial trivial sp
  obtain ⟨rfl, rfl⟩ := hV.unique (vr (Below.refl _ _) _)
  obtain ⟨A, n, c, x, A', n', c', y, A2, n2, c2, A3, n3, c3, u, D, S, R, Q, rfl, hD0, hS0, hR0, hQ0, hx0, hy0, hu0⟩ := arg_both (hval 0 _ v0 rfl rfl) h0 (fun p hp => hlt p (by simp [hp])) (fun b o hp => hfz b o (by simp [hp]))
  obtain ⟨y, rfl, hz1⟩ := arg_intv (hval 1 _ v1 rfl rfl) h1
  refine (walk _ _ _ _ _ _ _ _ _ _ _ _ _ _ _ _ _ _ _ _ _ _ _ W hD0 hS0 hR0 hQ0 hx0 hy0 hu0 hz1 hE).mono fun e W' hh => ?_
  obtain ⟨rfl, hb⟩ := hh
  exact ⟨_, rfl, law_postV laidOut (tys_of (by rw [Tryd.params12]; kernel_rfl)) hW' (fun sp => vr hb sp) rfl rfl Tryd.underlying4 hb⟩

set_option maxRecDepth 100000 in
theorem lifted (os : Os) (started : os.Started) (H : Type) (enc : TypeId × Value → H) :
    ReturnsInHanded {} Tryd.checked os 12 .any (fun w args => (Rows.fnExactCutBothSpec.pre enc Tryd.prog Tryd.f12 [] false w args ∧ laidMetH Tryd.prog laid3 w) ∧ sizedMet enc Tryd.prog Tryd.f12 (OpenSpec.ofChange Rows.fnExactCutBothSpec) false w args) (Rows.fnExactCutBothSpec.post enc Tryd.prog Tryd.f12 false true false false) := by
  refine returnsInHanded_of_change_and (C := Tryd.checked) (X := fun w _ => laidMetH Tryd.prog laid3 w) (fun _ _ _ hh h => h.of_heap hh) own started (by kernel_rfl) Tryd.func12
    (ChangeSpec.witness_shaped (enc := enc) (C := Tryd.checked) (os := os) (X := fun w _ => laidMetH Tryd.prog laid3 w) false (World.doorLaid Tryd.prog 85 os) #[.agg #[.slice none 0 0, .int .i64 0, .slice none 0 0, .int .i64 0, .slice none 0 0, .slice none 0 0, .int .i64 0], .int .i64 0] 8 rfl (World.shaped_of_RefB (by kernel_rfl) (by kernel_rfl)) (by kernel_rfl) (by kernel_rfl) (by kernel_rfl) (door_met3 os _)) ?_
  intro W base args ds gs before hval hW _ _ hL _
  exact contract H enc W base args ds gs before hval hW hL

theorem row : Rows.FnExactCutBothSaid :=
  OpenClaim.holds_of_wide 12 Tryd.f12 rfl rfl rfl rfl rfl rfl rfl ⟨rfl, rfl, rfl, rfl, rfl⟩ rfl rfl rfl rfl rfl (by kernel_rfl) Tryd.func12 (by kernel_rfl)
    (of_decide_eq_true (by kernel_rfl)) (by unfold Func.isWrapper; first | (rw [if_pos (by decide +kernel)]; kernel_rfl) | (rw [if_neg (by decide +kernel)]; exact ⟨rfl, rfl⟩))
    (fun os started H enc _ => lifted os started H enc)

theorem holds : Rows.FnExactCutBothCardSaid :=
  Claim7.holds_tied_plain_at .later [] [.sentinel, .sentinel, .sentinel] true _ true
    row (fun _ h => by cases h) (by kernel_rfl) (fun _ h => by cases h) fnExactCutBoth_row_tie rfl ⟨rfl, rfl⟩ (by kernel_rfl) rfl
    (fun f fn hf hfn => by
      obtain rfl : f = 12 := Option.some.inj ((show Tryd.prog.funcNamed "loop.example/streamlayers/laws.FnExactCutBoth" = some 12 by kernel_rfl).symm.trans hf) |>.symm
      obtain rfl : fn = Tryd.f12 := (Option.some.inj (Tryd.func12.symm.trans hfn)).symm
      exact ⟨by kernel_rfl, fun j t ht => by
        have hm : t ∈ Tryd.f12.params.toList := Array.mem_toList_iff.2 (Array.mem_of_getElem? ht)
        have hall : (Tryd.f12.params.toList.all fun t => !(Tryd.prog.wantsStandIn t)) = true := by kernel_rfl
        have h9 := List.all_eq_true.1 hall t hm
        show Tryd.prog.wantsStandIn t = false
        simpa using h9⟩)
    (by kernel_rfl)
end ExactCutBoth
end Go.Proofs.YtphkkalkajleiaaDoor
