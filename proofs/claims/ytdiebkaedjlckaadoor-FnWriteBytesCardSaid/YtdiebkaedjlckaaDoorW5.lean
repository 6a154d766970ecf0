/- Writers by the laws' own helpers: compared; answers of numbers that are named. -/
import Derived.Test.YtdiebkaedjlckaaDoorG1
import Derived.Test.YtdiebkaedjlckaaDoorS1d
namespace Go.Proofs.YtdiebkaedjlckaaDoor
open Go.ChangeShapes Go.WideShapes Go.ChangeAt Go.RowKit
set_option linter.unusedSimpArgs false
set_option linter.unusedVariables false
set_option maxRecDepth 10000

theorem Ints.cutIf {w : World} {lo hi n a c : Nat} {A : Option Addr} {xs : List Int} (h : Ints w lo hi A n xs) (ha : a ≤ n) (hc : n ≤ c) : Ints w lo hi (if c = a then A else A.map fun x => x.add a) (n - a) (xs.drop a) := by
  split
  · have h0 : n - a = 0 := by omega
    have hl := h.len
    rw [h0, List.drop_of_length_le (by omega)]
    exact (Ints.nil w lo hi 0 A).1
  · exact h.drop ha
theorem to_boolN {f : Nat} {args : Array Value} {w : World} {a b : Bool} (h : Calls Tryd.prog f args w (BoolB a w)) (e : a = b) : Calls Tryd.prog f args w (BoolB b w) := e ▸ h
theorem to_intN {f : Nat} {args : Array Value} {w : World} {a b : Int} (h : Calls Tryd.prog f args w (IntB a w)) (e : a = b) : Calls Tryd.prog f args w (IntB b w) := e ▸ h
theorem to_listN {f : Nat} {args : Array Value} {w : World} {a b : List Int} (h : Calls Tryd.prog f args w (ListPost a w)) (e : a = b) : Calls Tryd.prog f args w (ListPost b w) := e ▸ h

set_option maxHeartbeats 2000000 in
theorem equalWriter_same {A A' A2 X X' X2 : Option Addr} {n c n' c' n2 c2 k d k' d' k2 d2 : Nat} {D S R : List Int} {p q z : Int} {w : World} {L B L' B' M C U V U' V' Y Z : Nat}
    (h : Ints w L B A n D) (h' : Ints w L' B' A' n' S) (g : Ints w M C A2 n2 R) (i : Ints w U V X k D) (i' : Ints w U' V' X' k' S) (j : Ints w Y Z X2 k2 R)
    (hB : B ≤ w.heap.size) (hB' : B' ≤ w.heap.size) (hC : C ≤ w.heap.size) (hV : V ≤ w.heap.size) (hV' : V' ≤ w.heap.size) (hZ : Z ≤ w.heap.size) :
    Calls Tryd.prog 37 #[.agg #[.slice (A) n c, .int .i64 (p), .slice (A') n' c', .int .i64 (q), .slice (A2) n2 c2, .int .i64 (z)], .agg #[.slice (X) k d, .int .i64 (p), .slice (X') k' d', .int .i64 (q), .slice (X2) k2 d2, .int .i64 (z)]] w (BoolB true w) := by
  have H1 := Lib.hid ((h.alloc hB (.cells #[.slice (A) n c, .int .i64 (p), .slice (A') n' c', .int .i64 (q), .slice (A2) n2 c2, .int .i64 (z)] 30)).alloc (by first | omega | (simp; omega) | (simp; done)) (.cells #[.slice (X) k d, .int .i64 (p), .slice (X') k' d', .int .i64 (q), .slice (X2) k2 d2, .int .i64 (z)] 30))
  have H2 := Lib.hid ((h'.alloc hB' (.cells #[.slice (A) n c, .int .i64 (p), .slice (A') n' c', .int .i64 (q), .slice (A2) n2 c2, .int .i64 (z)] 30)).alloc (by first | omega | (simp; omega) | (simp; done)) (.cells #[.slice (X) k d, .int .i64 (p), .slice (X') k' d', .int .i64 (q), .slice (X2) k2 d2, .int .i64 (z)] 30))
  have H3 := Lib.hid ((g.alloc hC (.cells #[.slice (A) n c, .int .i64 (p), .slice (A') n' c', .int .i64 (q), .slice (A2) n2 c2, .int .i64 (z)] 30)).alloc (by first | omega | (simp; omega) | (simp; done)) (.cells #[.slice (X) k d, .int .i64 (p), .slice (X') k' d', .int .i64 (q), .slice (X2) k2 d2, .int .i64 (z)] 30))
  have I1 := Lib.hid ((i.alloc hV (.cells #[.slice (A) n c, .int .i64 (p), .slice (A') n' c', .int .i64 (q), .slice (A2) n2 c2, .int .i64 (z)] 30)).alloc (by first | omega | (simp; omega) | (simp; done)) (.cells #[.slice (X) k d, .int .i64 (p), .slice (X') k' d', .int .i64 (q), .slice (X2) k2 d2, .int .i64 (z)] 30))
  have I2 := Lib.hid ((i'.alloc hV' (.cells #[.slice (A) n c, .int .i64 (p), .slice (A') n' c', .int .i64 (q), .slice (A2) n2 c2, .int .i64 (z)] 30)).alloc (by first | omega | (simp; omega) | (simp; done)) (.cells #[.slice (X) k d, .int .i64 (p), .slice (X') k' d', .int .i64 (q), .slice (X2) k2 d2, .int .i64 (z)] 30))
  have I3 := Lib.hid ((j.alloc hZ (.cells #[.slice (A) n c, .int .i64 (p), .slice (A') n' c', .int .i64 (q), .slice (A2) n2 c2, .int .i64 (z)] 30)).alloc (by first | omega | (simp; omega) | (simp; done)) (.cells #[.slice (X) k d, .int .i64 (p), .slice (X') k' d', .int .i64 (q), .slice (X2) k2 d2, .int .i64 (z)] 30))
  have X0 := Lib.hid ((Box.new w 30 [.slice (A) n c, .int .i64 (p), .slice (A') n' c', .int .i64 (q), .slice (A2) n2 c2, .int .i64 (z)]).alloc (.cells #[.slice (X) k d, .int .i64 (p), .slice (X') k' d', .int .i64 (q), .slice (X2) k2 d2, .int .i64 (z)] 30))
  have Y0 := Lib.hid (Box.new (w.alloc (.cells #[.slice (A) n c, .int .i64 (p), .slice (A') n' c', .int .i64 (q), .slice (A2) n2 c2, .int .i64 (z)] 30)) 30 [.slice (X) k d, .int .i64 (p), .slice (X') k' d', .int .i64 (q), .slice (X2) k2 d2, .int .i64 (z)])
  (try simp only [World.size_alloc, World.size_setCell, World.size_drew] at Y0)
  clear h h' g i i' j
  go_enter Tryd.func37, Tryd.ntmps37
  go_wp2_with fail
  refine (equalDevice_same H1.out H2.out I1.out I2.out (by first | omega | (simp; omega) | (simp; done)) (by first | omega | (simp; omega) | (simp; done)) (by first | omega | (simp; omega) | (simp; done)) (by first | omega | (simp; omega) | (simp; done))).mono ?_
  rintro e w1 ⟨rfl, hb⟩
  (try simp only [World.size_alloc, World.size_setCell, World.size_drew] at hb)
  have X1 := Lib.hid (X0.out.below hb (by omega))
  have Y1 := Lib.hid (Y0.out.below hb (by omega))
  have J1 := Lib.hid (H3.out.below hb (by first | omega | (simp; omega) | (simp; done)))
  have J2 := Lib.hid (I3.out.below hb (by first | omega | (simp; omega) | (simp; done)))
  have E1 : Hid (Below w.heap.size w w1) := below_step hb (by go_grown) (by omega)
  have s1 := hb.size
  (try simp only [World.size_alloc, World.size_setCell, World.size_drew] at s1)
  clear hb X0 Y0 H1 H2 H3 I1 I2 I3
  have x0 := (X1.out.2 0 _ rfl).1; have x1 := (X1.out.2 1 _ rfl).1; have x2 := (X1.out.2 2 _ rfl).1; have x3 := (X1.out.2 3 _ rfl).1; have x4 := (X1.out.2 4 _ rfl).1; have x5 := (X1.out.2 5 _ rfl).1
  have y0 := (Y1.out.2 0 _ rfl).1; have y1 := (Y1.out.2 1 _ rfl).1; have y2 := (Y1.out.2 2 _ rfl).1; have y3 := (Y1.out.2 3 _ rfl).1; have y4 := (Y1.out.2 4 _ rfl).1; have y5 := (Y1.out.2 5 _ rfl).1
  go_wp2_with fail
  refine (equalInts_same J1.out J2.out rfl).mono ?_
  rintro e w2 ⟨rfl, hb⟩
  have X2 := Lib.hid (X1.out.below hb (by omega))
  have Y2 := Lib.hid (Y1.out.below hb (by omega))
  have HB := Lib.hid hb
  clear hb
  have x0 := (X2.out.2 0 _ rfl).1; have x1 := (X2.out.2 1 _ rfl).1; have x2 := (X2.out.2 2 _ rfl).1; have x3 := (X2.out.2 3 _ rfl).1; have x4 := (X2.out.2 4 _ rfl).1; have x5 := (X2.out.2 5 _ rfl).1
  have y0 := (Y2.out.2 0 _ rfl).1; have y1 := (Y2.out.2 1 _ rfl).1; have y2 := (Y2.out.2 2 _ rfl).1; have y3 := (Y2.out.2 3 _ rfl).1; have y4 := (Y2.out.2 4 _ rfl).1; have y5 := (Y2.out.2 5 _ rfl).1
  go_wp2
  go_ret
  exact ⟨rfl, below_step HB.out E1.out (by omega)⟩
end Go.Proofs.YtdiebkaedjlckaaDoor
