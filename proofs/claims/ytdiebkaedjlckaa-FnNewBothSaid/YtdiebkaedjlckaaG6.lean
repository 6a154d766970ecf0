/- Plain files and files by the laws' own helpers: compared; answers of numbers that are named. -/
import Derived.Test.YtdiebkaedjlckaaG3
import Derived.Test.YtdiebkaedjlckaaC4b
namespace Go.Proofs.Ytdiebkaedjlckaa
open Go.ChangeShapes Go.WideShapes Go.ChangeAt Go.RowKit
set_option linter.unusedSimpArgs false
set_option linter.unusedVariables false
set_option maxRecDepth 10000

def PostPLN (D : List Int) (p : Int) (R : List Int) (w : World) (e : Ending) (w' : World) : Prop :=
  ∃ A n c X l k, e = .returned (.tuple #[.agg #[.slice (A) n c, .int .i64 (p)], .slice X l k]) ∧ (n ≤ c ∧ l ≤ k) ∧ Below w.heap.size w w' ∧ Ints w' w.heap.size w'.heap.size A n D ∧ Ints w' w.heap.size w'.heap.size X l R
def PostPIN (D : List Int) (p y : Int) (w : World) (e : Ending) (w' : World) : Prop :=
  ∃ A n c, e = .returned (.tuple #[.agg #[.slice (A) n c, .int .i64 (p)], .int .i64 y]) ∧ n ≤ c ∧ Below w.heap.size w w' ∧ Ints w' w.heap.size w'.heap.size A n D
def PostPBN (D : List Int) (p : Int) (b : Bool) (w : World) (e : Ending) (w' : World) : Prop :=
  ∃ A n c, e = .returned (.tuple #[.agg #[.slice (A) n c, .int .i64 (p)], .bool b]) ∧ n ≤ c ∧ Below w.heap.size w w' ∧ Ints w' w.heap.size w'.heap.size A n D
def PostPN (D : List Int) (p : Int) (w : World) (e : Ending) (w' : World) : Prop :=
  ∃ A n c, e = .returned (.agg #[.slice (A) n c, .int .i64 (p)]) ∧ n ≤ c ∧ Below w.heap.size w w' ∧ Ints w' w.heap.size w'.heap.size A n D
theorem to_pl {f : Nat} {args : Array Value} {w : World} {o : Pv × List Int} {D R : List Int} {p : Int} (h : Calls Try.prog f args w (PostPL o w)) (e : o = (⟨D, p⟩, R)) : Calls Try.prog f args w (PostPLN D p R w) := by
  subst e
  refine h.mono fun e w' hh => ?_
  obtain ⟨A, n, c, X, l, k, he, hc, hb, h1, h2, _, _⟩ := hh
  exact ⟨A, n, c, X, l, k, he, hc, hb, h1, h2⟩
theorem to_pi {f : Nat} {args : Array Value} {w : World} {o : Pv × Int} {D : List Int} {p y : Int} (h : Calls Try.prog f args w (PostPI o w)) (e : o = (⟨D, p⟩, y)) : Calls Try.prog f args w (PostPIN D p y w) := by
  subst e
  refine h.mono fun e w' hh => ?_
  obtain ⟨A, n, c, he, hc, hb, h1, _⟩ := hh
  exact ⟨A, n, c, he, hc, hb, h1⟩
theorem to_pb {f : Nat} {args : Array Value} {w : World} {o : Pv × Bool} {D : List Int} {p : Int} {b : Bool} (h : Calls Try.prog f args w (PostPB o w)) (e : o = (⟨D, p⟩, b)) : Calls Try.prog f args w (PostPBN D p b w) := by
  subst e
  refine h.mono fun e w' hh => ?_
  obtain ⟨A, n, c, he, hc, hb, h1, _⟩ := hh
  exact ⟨A, n, c, he, hc, hb, h1⟩
theorem to_pn {f : Nat} {args : Array Value} {w : World} {o : Pv} {D : List Int} {p : Int} (h : Calls Try.prog f args w (PostP o w)) (e : o = ⟨D, p⟩) : Calls Try.prog f args w (PostPN D p w) := by
  subst e
  refine h.mono fun e w' hh => ?_
  obtain ⟨A, n, c, he, hc, hb, h1, _⟩ := hh
  exact ⟨A, n, c, he, hc, hb, h1⟩
/-- A file of numbers that are named, and a bool; and an int. -/
def PostBBN (D : List Int) (p : Int) (S : List Int) (q : Int) (R Q : List Int) (z : Int) (b : Bool) (w : World) (e : Ending) (w' : World) : Prop :=
  ∃ A n c A' n' c' A2 n2 c2 A3 n3 c3, e = .returned (.tuple #[.agg #[.slice (A) n c, .int .i64 (p), .slice (A') n' c', .int .i64 (q), .slice (A2) n2 c2, .slice (A3) n3 c3, .int .i64 (z)], .bool b]) ∧ (n ≤ c ∧ n' ≤ c' ∧ n2 ≤ c2 ∧ n3 ≤ c3) ∧ Below w.heap.size w w' ∧ Ints w' w.heap.size w'.heap.size A n D ∧ Ints w' w.heap.size w'.heap.size A' n' S ∧ Ints w' w.heap.size w'.heap.size A2 n2 R ∧ Ints w' w.heap.size w'.heap.size A3 n3 Q
theorem to_bb {f : Nat} {args : Array Value} {w : World} {o : Bv × Bool} {D S R Q : List Int} {p q z : Int} {b : Bool} (h : Calls Try.prog f args w (Post2B o w)) (e : o = (⟨D, p, S, q, R, Q, z⟩, b)) : Calls Try.prog f args w (PostBBN D p S q R Q z b w) := by
  subst e
  refine h.mono fun e w' hh => ?_
  obtain ⟨A, n, c, A', n', c', A2, n2, c2, A3, n3, c3, he, hc, hb, ⟨⟨⟨h1, h2, _⟩, h3, _⟩, h4, _⟩⟩ := hh
  exact ⟨A, n, c, A', n', c', A2, n2, c2, A3, n3, c3, he, hc, hb, h1, h2, h3, h4⟩

set_option maxHeartbeats 2000000 in
theorem equalPlain_same {A X : Option Addr} {n c k d : Nat} {D : List Int} {p : Int} {w : World} {L B U V : Nat}
    (h : Ints w L B A n D) (i : Ints w U V X k D) (hB : B ≤ w.heap.size) (hV : V ≤ w.heap.size) :
    Calls Try.prog 12 #[.agg #[.slice (A) n c, .int .i64 (p)], .agg #[.slice (X) k d, .int .i64 (p)]] w (BoolB true w) := by
  have H1 := Lib.hid ((h.alloc hB (.cells #[.slice (A) n c, .int .i64 (p)] 35)).alloc (by first | omega | (simp; omega) | (simp; done)) (.cells #[.slice (X) k d, .int .i64 (p)] 35))
  have I1 := Lib.hid ((i.alloc hV (.cells #[.slice (A) n c, .int .i64 (p)] 35)).alloc (by first | omega | (simp; omega) | (simp; done)) (.cells #[.slice (X) k d, .int .i64 (p)] 35))
  have X0 := Lib.hid ((Box.new w 35 [.slice (A) n c, .int .i64 (p)]).alloc (.cells #[.slice (X) k d, .int .i64 (p)] 35))
  have Y0 := Lib.hid (Box.new (w.alloc (.cells #[.slice (A) n c, .int .i64 (p)] 35)) 35 [.slice (X) k d, .int .i64 (p)])
  (try simp only [World.size_alloc, World.size_setCell, World.size_drew] at Y0)
  clear h i
  go_enter Try.func12, Try.ntmps12
  go_wp2_with fail
  refine (equalInts_same H1.out I1.out rfl).mono ?_
  rintro e w1 ⟨rfl, hb⟩
  (try simp only [World.size_alloc, World.size_setCell, World.size_drew] at hb)
  have X1 := Lib.hid (X0.out.below hb (by omega))
  have Y1 := Lib.hid (Y0.out.below hb (by omega))
  have E1 : Hid (Below w.heap.size w w1) := below_step hb (by go_grown) (by omega)
  clear hb X0 Y0 H1 I1
  have x0 := (X1.out.2 0 _ rfl).1; have x1 := (X1.out.2 1 _ rfl).1
  have y0 := (Y1.out.2 0 _ rfl).1; have y1 := (Y1.out.2 1 _ rfl).1
  go_wp2
  go_ret
  exact ⟨rfl, E1.out⟩

set_option maxHeartbeats 4000000 in
theorem equalBoth_same {A A' A2 A3 X X' X2 X3 : Option Addr} {n c n' c' n2 c2 n3 c3 k d k' d' k2 d2 k3 d3 : Nat} {D S R Q : List Int} {p q z : Int} {w : World} {L B L' B' M C M3 C3 U V U' V' Y Z Y3 Z3 : Nat}
    (h : Ints w L B A n D) (h' : Ints w L' B' A' n' S) (g : Ints w M C A2 n2 R) (f : Ints w M3 C3 A3 n3 Q) (i : Ints w U V X k D) (i' : Ints w U' V' X' k' S) (j : Ints w Y Z X2 k2 R) (l : Ints w Y3 Z3 X3 k3 Q)
    (hB : B ≤ w.heap.size) (hB' : B' ≤ w.heap.size) (hC : C ≤ w.heap.size) (hC3 : C3 ≤ w.heap.size) (hV : V ≤ w.heap.size) (hV' : V' ≤ w.heap.size) (hZ : Z ≤ w.heap.size) (hZ3 : Z3 ≤ w.heap.size) :
    Calls Try.prog 11 #[.agg #[.slice (A) n c, .int .i64 (p), .slice (A') n' c', .int .i64 (q), .slice (A2) n2 c2, .slice (A3) n3 c3, .int .i64 (z)], .agg #[.slice (X) k d, .int .i64 (p), .slice (X') k' d', .int .i64 (q), .slice (X2) k2 d2, .slice (X3) k3 d3, .int .i64 (z)]] w (BoolB true w) := by
  have H1 := Lib.hid ((h.alloc hB (.cells #[.slice (A) n c, .int .i64 (p), .slice (A') n' c', .int .i64 (q), .slice (A2) n2 c2, .slice (A3) n3 c3, .int .i64 (z)] 29)).alloc (by first | omega | (simp; omega) | (simp; done)) (.cells #[.slice (X) k d, .int .i64 (p), .slice (X') k' d', .int .i64 (q), .slice (X2) k2 d2, .slice (X3) k3 d3, .int .i64 (z)] 29))
  have H2 := Lib.hid ((h'.alloc hB' (.cells #[.slice (A) n c, .int .i64 (p), .slice (A') n' c', .int .i64 (q), .slice (A2) n2 c2, .slice (A3) n3 c3, .int .i64 (z)] 29)).alloc (by first | omega | (simp; omega) | (simp; done)) (.cells #[.slice (X) k d, .int .i64 (p), .slice (X') k' d', .int .i64 (q), .slice (X2) k2 d2, .slice (X3) k3 d3, .int .i64 (z)] 29))
  have H3 := Lib.hid ((g.alloc hC (.cells #[.slice (A) n c, .int .i64 (p), .slice (A') n' c', .int .i64 (q), .slice (A2) n2 c2, .slice (A3) n3 c3, .int .i64 (z)] 29)).alloc (by first | omega | (simp; omega) | (simp; done)) (.cells #[.slice (X) k d, .int .i64 (p), .slice (X') k' d', .int .i64 (q), .slice (X2) k2 d2, .slice (X3) k3 d3, .int .i64 (z)] 29))
  have H4 := Lib.hid ((f.alloc hC3 (.cells #[.slice (A) n c, .int .i64 (p), .slice (A') n' c', .int .i64 (q), .slice (A2) n2 c2, .slice (A3) n3 c3, .int .i64 (z)] 29)).alloc (by first | omega | (simp; omega) | (simp; done)) (.cells #[.slice (X) k d, .int .i64 (p), .slice (X') k' d', .int .i64 (q), .slice (X2) k2 d2, .slice (X3) k3 d3, .int .i64 (z)] 29))
  have I1 := Lib.hid ((i.alloc hV (.cells #[.slice (A) n c, .int .i64 (p), .slice (A') n' c', .int .i64 (q), .slice (A2) n2 c2, .slice (A3) n3 c3, .int .i64 (z)] 29)).alloc (by first | omega | (simp; omega) | (simp; done)) (.cells #[.slice (X) k d, .int .i64 (p), .slice (X') k' d', .int .i64 (q), .slice (X2) k2 d2, .slice (X3) k3 d3, .int .i64 (z)] 29))
  have I2 := Lib.hid ((i'.alloc hV' (.cells #[.slice (A) n c, .int .i64 (p), .slice (A') n' c', .int .i64 (q), .slice (A2) n2 c2, .slice (A3) n3 c3, .int .i64 (z)] 29)).alloc (by first | omega | (simp; omega) | (simp; done)) (.cells #[.slice (X) k d, .int .i64 (p), .slice (X') k' d', .int .i64 (q), .slice (X2) k2 d2, .slice (X3) k3 d3, .int .i64 (z)] 29))
  have I3 := Lib.hid ((j.alloc hZ (.cells #[.slice (A) n c, .int .i64 (p), .slice (A') n' c', .int .i64 (q), .slice (A2) n2 c2, .slice (A3) n3 c3, .int .i64 (z)] 29)).alloc (by first | omega | (simp; omega) | (simp; done)) (.cells #[.slice (X) k d, .int .i64 (p), .slice (X') k' d', .int .i64 (q), .slice (X2) k2 d2, .slice (X3) k3 d3, .int .i64 (z)] 29))
  have I4 := Lib.hid ((l.alloc hZ3 (.cells #[.slice (A) n c, .int .i64 (p), .slice (A') n' c', .int .i64 (q), .slice (A2) n2 c2, .slice (A3) n3 c3, .int .i64 (z)] 29)).alloc (by first | omega | (simp; omega) | (simp; done)) (.cells #[.slice (X) k d, .int .i64 (p), .slice (X') k' d', .int .i64 (q), .slice (X2) k2 d2, .slice (X3) k3 d3, .int .i64 (z)] 29))
  have X0 := Lib.hid ((Box.new w 29 [.slice (A) n c, .int .i64 (p), .slice (A') n' c', .int .i64 (q), .slice (A2) n2 c2, .slice (A3) n3 c3, .int .i64 (z)]).alloc (.cells #[.slice (X) k d, .int .i64 (p), .slice (X') k' d', .int .i64 (q), .slice (X2) k2 d2, .slice (X3) k3 d3, .int .i64 (z)] 29))
  have Y0 := Lib.hid (Box.new (w.alloc (.cells #[.slice (A) n c, .int .i64 (p), .slice (A') n' c', .int .i64 (q), .slice (A2) n2 c2, .slice (A3) n3 c3, .int .i64 (z)] 29)) 29 [.slice (X) k d, .int .i64 (p), .slice (X') k' d', .int .i64 (q), .slice (X2) k2 d2, .slice (X3) k3 d3, .int .i64 (z)])
  (try simp only [World.size_alloc, World.size_setCell, World.size_drew] at Y0)
  have s0 : ((w.alloc (.cells #[.slice (A) n c, .int .i64 (p), .slice (A') n' c', .int .i64 (q), .slice (A2) n2 c2, .slice (A3) n3 c3, .int .i64 (z)] 29)).alloc (.cells #[.slice (X) k d, .int .i64 (p), .slice (X') k' d', .int .i64 (q), .slice (X2) k2 d2, .slice (X3) k3 d3, .int .i64 (z)] 29)).heap.size = w.heap.size + 2 := by simp
  clear h h' g f i i' j l
  go_enter Try.func11, Try.ntmps11
  go_wp2_with fail
  refine (equalDevice_same H1.out H2.out I1.out I2.out (by first | omega | (simp; omega) | (simp; done)) (by first | omega | (simp; omega) | (simp; done)) (by first | omega | (simp; omega) | (simp; done)) (by first | omega | (simp; omega) | (simp; done))).mono ?_
  rintro e w1 ⟨rfl, hb⟩
  (try simp only [World.size_alloc, World.size_setCell, World.size_drew] at hb)
  have X1 := Lib.hid (X0.out.below hb (by omega))
  have Y1 := Lib.hid (Y0.out.below hb (by omega))
  have J1 := Lib.hid (H3.out.below hb (by first | omega | (simp; omega) | (simp; done)))
  have J2 := Lib.hid (I3.out.below hb (by first | omega | (simp; omega) | (simp; done)))
  have J3 := Lib.hid (H4.out.below hb (by first | omega | (simp; omega) | (simp; done)))
  have J4 := Lib.hid (I4.out.below hb (by first | omega | (simp; omega) | (simp; done)))
  have E1 : Hid (Below w.heap.size w w1) := below_step hb (by go_grown) (by omega)
  have s1 := hb.size
  (try simp only [World.size_alloc, World.size_setCell, World.size_drew] at s1)
  clear hb X0 Y0 H1 H2 H3 H4 I1 I2 I3 I4 s0
  have x0 := (X1.out.2 0 _ rfl).1; have x1 := (X1.out.2 1 _ rfl).1; have x2 := (X1.out.2 2 _ rfl).1; have x3 := (X1.out.2 3 _ rfl).1; have x4 := (X1.out.2 4 _ rfl).1; have x5 := (X1.out.2 5 _ rfl).1; have x6 := (X1.out.2 6 _ rfl).1
  have y0 := (Y1.out.2 0 _ rfl).1; have y1 := (Y1.out.2 1 _ rfl).1; have y2 := (Y1.out.2 2 _ rfl).1; have y3 := (Y1.out.2 3 _ rfl).1; have y4 := (Y1.out.2 4 _ rfl).1; have y5 := (Y1.out.2 5 _ rfl).1; have y6 := (Y1.out.2 6 _ rfl).1
  go_wp2_with fail
  refine (equalInts_same J1.out J2.out rfl).mono ?_
  rintro e w2 ⟨rfl, hb⟩
  have X2 := Lib.hid (X1.out.below hb (by omega))
  have Y2 := Lib.hid (Y1.out.below hb (by omega))
  have J5 := Lib.hid (J3.out.below hb (by omega))
  have J6 := Lib.hid (J4.out.below hb (by omega))
  have HB := Lib.hid hb
  have s2 := hb.size
  clear hb X1 Y1 J3 J4
  clear x0 x1 x2 x3 x4 x5 x6
  clear y0 y1 y2 y3 y4 y5 y6
  have x0 := (X2.out.2 0 _ rfl).1; have x1 := (X2.out.2 1 _ rfl).1; have x2 := (X2.out.2 2 _ rfl).1; have x3 := (X2.out.2 3 _ rfl).1; have x4 := (X2.out.2 4 _ rfl).1; have x5 := (X2.out.2 5 _ rfl).1; have x6 := (X2.out.2 6 _ rfl).1
  have y0 := (Y2.out.2 0 _ rfl).1; have y1 := (Y2.out.2 1 _ rfl).1; have y2 := (Y2.out.2 2 _ rfl).1; have y3 := (Y2.out.2 3 _ rfl).1; have y4 := (Y2.out.2 4 _ rfl).1; have y5 := (Y2.out.2 5 _ rfl).1; have y6 := (Y2.out.2 6 _ rfl).1
  go_wp2_with fail
  refine (equalInts_same J5.out J6.out rfl).mono ?_
  rintro e w3 ⟨rfl, hb⟩
  have X3 := Lib.hid (X2.out.below hb (by omega))
  have Y3 := Lib.hid (Y2.out.below hb (by omega))
  have HB2 := Lib.hid hb
  clear hb X2 Y2
  clear x0 x1 x2 x3 x4 x5 x6
  clear y0 y1 y2 y3 y4 y5 y6
  have x0 := (X3.out.2 0 _ rfl).1; have x1 := (X3.out.2 1 _ rfl).1; have x2 := (X3.out.2 2 _ rfl).1; have x3 := (X3.out.2 3 _ rfl).1; have x4 := (X3.out.2 4 _ rfl).1; have x5 := (X3.out.2 5 _ rfl).1; have x6 := (X3.out.2 6 _ rfl).1
  have y0 := (Y3.out.2 0 _ rfl).1; have y1 := (Y3.out.2 1 _ rfl).1; have y2 := (Y3.out.2 2 _ rfl).1; have y3 := (Y3.out.2 3 _ rfl).1; have y4 := (Y3.out.2 4 _ rfl).1; have y5 := (Y3.out.2 5 _ rfl).1; have y6 := (Y3.out.2 6 _ rfl).1
  go_wp2
  go_ret
  exact ⟨rfl, below_step HB2.out (below_step HB.out E1.out (by omega)) (by omega)⟩
-- plain facts
theorem pr_no {D : List Int} {p z : Int} (h : (validP D p && inB z 0 60) = false) : prOut D p z = (⟨[], 0⟩, []) := by unfold prOut; rw [h]; rfl
theorem prL_le {D : List Int} {p z : Int} (hz : 0 ≤ z) : ((prL D p z).length : Int) ≤ z := by unfold prL; rw [List.length_take]; omega
theorem pr_yes {D : List Int} {p z : Int} (h : (validP D p && inB z 0 60) = true) : ∃ m : Nat, (prL D p z).length = m ∧ m ≤ 60 ∧ prOut D p z = (⟨D, p + (m : Int)⟩, prL D p z) ∧ validP D p = true ∧ (0 ≤ z ∧ z ≤ 60) ∧ validD D (p + (m : Int)) [] 0 = true := by
  obtain ⟨h1, h2⟩ := Bool.and_eq_true_iff.1 h
  have hz : 0 ≤ z ∧ z ≤ 60 := by simpa [inB] using h2
  have hv := validP_iff.1 h1
  have h60 := bytesB_le hv.1
  have hm := prL_le (D := D) (p := p) hz.1
  refine ⟨_, rfl, by omega, ?_, h1, hz, ?_⟩
  · unfold prOut; rw [h]; rfl
  · rw [validP_D]
    refine validP_iff.2 ⟨hv.1, by omega, ?_⟩
    unfold prL
    rw [List.length_take, List.length_drop]
    omega
theorem ps_no {D : List Int} {p off wh : Int} (h : (psOut D p off wh).2 = false) : psOut D p off wh = (⟨[], 0⟩, false) := by
  have h1 := seek_no (S := []) (q := 0) (D := D) (p := p) (off := off) (wh := wh) h
  unfold psOut; rw [h1]
theorem ps_yes {D : List Int} {p off wh : Int} (h : (psOut D p off wh).2 = true) : ∃ t, psOut D p off wh = (⟨D, t⟩, true) ∧ psOut D p t 0 = (⟨D, t⟩, true) := by
  obtain ⟨t, h1, h2, h3, _⟩ := seek_yes (S := []) (q := 0) (D := D) (p := p) (off := off) (wh := wh) h
  have h4 := seek_start (S := []) (q := 0) h2 h3.1 h3.2
  refine ⟨t, ?_, ?_⟩
  · unfold psOut; rw [h1]
  · unfold psOut; rw [h4]
theorem ps_back {D : List Int} {p : Int} {m : Nat} (hv : validD D (p + (m : Int)) [] 0 = true) (hp : 0 ≤ p) : psOut D (p + (m : Int)) (-(m : Int)) 1 = (⟨D, p⟩, true) := by
  unfold psOut; rw [seek_back hv hp]
theorem pw_no {D L : List Int} {p : Int} (h : (validP D p && bytesB L) = false) : pwOut D p L = (⟨[], 0⟩, 0) := by unfold pwOut; rw [h]; rfl
theorem pw_yes {D L : List Int} {p : Int} (h : (validP D p && bytesB L) = true) : ∃ m : Nat, m ≤ L.length ∧ m ≤ 60 ∧ pwOut D p L = (⟨wrL D p.toNat (L.take m), p + (m : Int)⟩, (m : Int)) ∧ 0 ≤ p ∧ validD (wrL D p.toNat (L.take m)) (p + (m : Int)) [] 0 = true ∧
    prOut (wrL D p.toNat (L.take m)) p (m : Int) = (⟨wrL D p.toNat (L.take m), p + (m : Int)⟩, L.take m) := by
  obtain ⟨h1, h2⟩ := Bool.and_eq_true_iff.1 h
  have hv := validP_iff.1 h1
  have h60 := bytesB_le hv.1
  have hL60 := bytesB_le h2
  have hm1 : waM p.toNat L.length ≤ L.length := by unfold waM; omega
  have hm2 : p.toNat + waM p.toNat L.length ≤ 60 := by unfold waM; omega
  have hpw : pwOut D p L = (⟨wrL D p.toNat (L.take (waM p.toNat L.length)), p + ((waM p.toNat L.length : Nat) : Int)⟩, ((waM p.toNat L.length : Nat) : Int)) := by unfold pwOut; rw [h]; rfl
  generalize hm : waM p.toNat L.length = m at *
  have hW : validP (wrL D p.toNat (L.take m)) (p + (m : Int)) = true := by
    by_cases h0 : m = 0
    · subst h0
      rw [List.take_zero, show wrL D p.toNat [] = D by simp [wrL]]
      exact validP_iff.2 ⟨hv.1, by omega, by omega⟩
    · by_cases hL0 : L = []
      · subst hL0; simp at hm1; omega
      have hg : wrGood D p [] 0 L = true := wrGood_iff.2 ⟨by rw [validP_D]; exact h1, by omega, List.length_pos_iff.2 hL0, h2⟩
      have hx := valid_write (m := m) hg (.inr ⟨by omega, hm1, by omega⟩)
      obtain ⟨x1, _, _, x4, _⟩ := validD_iff.1 hx
      exact validP_iff.2 ⟨x1, by omega, by omega⟩
  refine ⟨m, hm1, by omega, hpw, by omega, by rw [validP_D]; exact hW, ?_⟩
  have hW2 := validP_iff.1 hW
  have hP : (validP (wrL D p.toNat (L.take m)) p && inB (m : Int) 0 60) = true := by
    rw [validP_iff.2 ⟨hW2.1, by omega, by omega⟩]
    simp [inB]; omega
  have hpre := List.isPrefixOf_iff_prefix.1 (wrL_pre (D := D) (L := L.take m) (a := p.toNat))
  have hpl : prL (wrL D p.toNat (L.take m)) p (m : Int) = L.take m := by
    unfold prL
    rw [Int.toNat_natCast]
    have e := List.prefix_iff_eq_take.1 hpre
    rw [List.length_take, Nat.min_eq_left hm1] at e
    exact e.symm
  unfold prOut
  rw [hP]
  rw [hpl]
  simp only [if_true, List.length_take, Nat.min_eq_left hm1]
end Go.Proofs.Ytdiebkaedjlckaa
