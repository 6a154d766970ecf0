/- The law of promise 38: a new file is its device: it is seen as the plain file of its bytes and its place. No conditions. -/
import Derived.Test.YtdiebkaedjlckaaK5
import Derived.Test.YtdiebkaedjlckaaG6
import Derived.Test.YtdiebkaedjlckaaS4b
set_option maxRecDepth 10000
namespace Go.Proofs.Ytdiebkaedjlckaa
open Go.ChangeShapes Go.WideShapes Go.ChangeAt Go.RowKit
set_option linter.unusedSimpArgs false
set_option linter.unusedVariables false
namespace LawNewBoth
theorem newb_no {D S : List Int} {p q z : Int} (h : validB D p S q [] [] z = false) : newBOut D p S q z = (⟨[], 0, [], 0, [], [], 0⟩, false) := by
  unfold newBOut; rw [h]; rfl
theorem newb_yes {D S : List Int} {p q z : Int} (h : validB D p S q [] [] z = true) : newBOut D p S q z = (⟨D, p, S, q, [], [], z⟩, true) := by
  unfold newBOut; rw [h]; rfl
theorem po_new {D S : List Int} {p q z : Int} (h : validB D p S q [] [] z = true) : poOut D p S q [] [] z = ⟨D, p⟩ := by
  unfold poOut; rw [h]
  have hw := (validB_iff.1 h).2.1
  simp [seenOut, hw, wrL]
set_option maxHeartbeats 8000000 in
theorem walk (A : Option Addr) (n c : Nat) (w : World) (h : BytesIn w w.heap.size A n) (hnc : n ≤ c) (hm : n ≤ 9223372036854775807) :
    Calls Try.prog 3 #[.slice A n c] w (BoolB true w) := by
  have HBY := Lib.hid h
  clear h
  have EB := Lib.hid (Below.refl w.heap.size w)
  by_cases hbig : (1048576 : Int) < (n : Int)
  · go_enter Try.func3, Try.ntmps3
    go_wp2
    go_ret
    exact ⟨rfl, Below.refl _ _⟩
  go_enter Try.func3, Try.ntmps3
  go_wp2_with fail
  refine (DrawNewBoth_any HBY.out (by omega) hnc).mono ?_
  rintro e w1 ⟨Ad, nd, cd, Ad', nd', cd', Dd, Sd, pd, qd, zn, rfl, ⟨⟨hcd, hcd'⟩, hb, hd, hd', ⟨hnd, hnd'⟩, hpd, hqd⟩, hzn⟩
  (try simp only [World.size_alloc, World.size_setCell, World.size_drew] at hb)
  have HB := Lib.hid hb
  clear hb
  have s1 := HB.out.size
  (try simp only [World.size_alloc, World.size_setCell, World.size_drew] at s1)
  replace EB := Lib.hid (below_step HB.out EB.out (by omega))
  clear HB
  have d1 := Lib.hid hd
  have d2 := Lib.hid hd'
  clear hd hd' HBY
  go_wp2_with fail
  replace d1 := Lib.hid (d1.out.alloc (by omega) (.cells #[.slice Ad nd cd, .int .i64 (pd), .slice Ad' nd' cd', .int .i64 (qd)] 25))
  replace d2 := Lib.hid (d2.out.alloc (by omega) (.cells #[.slice Ad nd cd, .int .i64 (pd), .slice Ad' nd' cd', .int .i64 (qd)] 25))
  replace EB := Lib.hid (EB.out.alloc (by omega) (.cells #[.slice Ad nd cd, .int .i64 (pd), .slice Ad' nd' cd', .int .i64 (qd)] 25))
  have Bd := Lib.hid (Box.new w1 25 [.slice Ad nd cd, .int .i64 (pd), .slice Ad' nd' cd', .int .i64 (qd)])
  have s2 : w1.heap.size + 1 ≤ (w1.alloc (.cells #[.slice Ad nd cd, .int .i64 (pd), .slice Ad' nd' cd', .int .i64 (qd)] 25)).heap.size := by simp
  generalize w1.alloc (.cells #[.slice Ad nd cd, .int .i64 (pd), .slice Ad' nd' cd', .int .i64 (qd)] 25) = w2 at *
  cases hv : validB Dd pd Sd qd [] [] zn
  · refine (to_bb (NewBoth_x d1.out d2.out (by omega) (by omega) hcd hcd' (by omega) (by omega) (by unfold okInt; omega) (by unfold okInt; omega) (by unfold okInt; omega)) (newb_no hv)).mono ?_
    rintro e w3 ⟨Ax, nx, cx, Ax', nx', cx', Ex, mx, dx, Fx, lx, kx, rfl, ⟨hcx, hcx', hcx'', hcx'''⟩, hb, hd0, hd1, hd2, hd3⟩
    (try simp only [World.size_alloc, World.size_setCell, World.size_drew] at hb)
    have HB := Lib.hid hb
    clear hb
    have s3 := HB.out.size
    (try simp only [World.size_alloc, World.size_setCell, World.size_drew] at s3)
    replace d1 := Lib.hid (d1.out.below HB.out (by omega))
    replace d2 := Lib.hid (d2.out.below HB.out (by omega))
    replace Bd := Lib.hid (Bd.out.below HB.out (by omega))
    replace EB := Lib.hid (below_step HB.out EB.out (by omega))
    clear HB
    have x1 := Lib.hid hd0
    have x2 := Lib.hid hd1
    have x3 := Lib.hid hd2
    have x4 := Lib.hid hd3
    clear hd0 hd1 hd2 hd3
    have vdl := Bd.out.lt
    have vd0 := (Bd.out.2 0 _ rfl).1
    have vd1 := (Bd.out.2 1 _ rfl).1
    have vd2 := (Bd.out.2 2 _ rfl).1
    have vd3 := (Bd.out.2 3 _ rfl).1
    go_wp2_with fail
    clear vdl vd0 vd1 vd2 vd3
    replace d1 := Lib.hid (d1.out.alloc (by omega) (.cells #[.slice Ax nx cx, .int .i64 (0), .slice Ax' nx' cx', .int .i64 (0), .slice Ex mx dx, .slice Fx lx kx, .int .i64 (0)] 29))
    replace d2 := Lib.hid (d2.out.alloc (by omega) (.cells #[.slice Ax nx cx, .int .i64 (0), .slice Ax' nx' cx', .int .i64 (0), .slice Ex mx dx, .slice Fx lx kx, .int .i64 (0)] 29))
    replace Bd := Lib.hid (Bd.out.alloc (.cells #[.slice Ax nx cx, .int .i64 (0), .slice Ax' nx' cx', .int .i64 (0), .slice Ex mx dx, .slice Fx lx kx, .int .i64 (0)] 29))
    replace x1 := Lib.hid (x1.out.alloc (by omega) (.cells #[.slice Ax nx cx, .int .i64 (0), .slice Ax' nx' cx', .int .i64 (0), .slice Ex mx dx, .slice Fx lx kx, .int .i64 (0)] 29))
    replace x2 := Lib.hid (x2.out.alloc (by omega) (.cells #[.slice Ax nx cx, .int .i64 (0), .slice Ax' nx' cx', .int .i64 (0), .slice Ex mx dx, .slice Fx lx kx, .int .i64 (0)] 29))
    replace x3 := Lib.hid (x3.out.alloc (by omega) (.cells #[.slice Ax nx cx, .int .i64 (0), .slice Ax' nx' cx', .int .i64 (0), .slice Ex mx dx, .slice Fx lx kx, .int .i64 (0)] 29))
    replace x4 := Lib.hid (x4.out.alloc (by omega) (.cells #[.slice Ax nx cx, .int .i64 (0), .slice Ax' nx' cx', .int .i64 (0), .slice Ex mx dx, .slice Fx lx kx, .int .i64 (0)] 29))
    replace EB := Lib.hid (EB.out.alloc (by omega) (.cells #[.slice Ax nx cx, .int .i64 (0), .slice Ax' nx' cx', .int .i64 (0), .slice Ex mx dx, .slice Fx lx kx, .int .i64 (0)] 29))
    have Bx := Lib.hid (Box.new w3 29 [.slice Ax nx cx, .int .i64 (0), .slice Ax' nx' cx', .int .i64 (0), .slice Ex mx dx, .slice Fx lx kx, .int .i64 (0)])
    have s4 : w3.heap.size + 1 ≤ (w3.alloc (.cells #[.slice Ax nx cx, .int .i64 (0), .slice Ax' nx' cx', .int .i64 (0), .slice Ex mx dx, .slice Fx lx kx, .int .i64 (0)] 29)).heap.size := by simp
    generalize w3.alloc (.cells #[.slice Ax nx cx, .int .i64 (0), .slice Ax' nx' cx', .int .i64 (0), .slice Ex mx dx, .slice Fx lx kx, .int .i64 (0)] 29) = w4 at *
    refine (to_bb (SNewBoth_x d1.out d2.out (by omega) (by omega) hcd hcd' (by omega) (by omega) (by unfold okInt; omega) (by unfold okInt; omega) (by unfold okInt; omega)) (newb_no hv)).mono ?_
    rintro e w5 ⟨Ay, ny, cy, Ay', ny', cy', Ey, my, dy, Fy, ly, ky, rfl, ⟨hcy, hcy', hcy'', hcy'''⟩, hb, hd0, hd1, hd2, hd3⟩
    (try simp only [World.size_alloc, World.size_setCell, World.size_drew] at hb)
    have HB := Lib.hid hb
    clear hb
    have s5 := HB.out.size
    (try simp only [World.size_alloc, World.size_setCell, World.size_drew] at s5)
    replace d1 := Lib.hid (d1.out.below HB.out (by omega))
    replace d2 := Lib.hid (d2.out.below HB.out (by omega))
    replace Bd := Lib.hid (Bd.out.below HB.out (by omega))
    replace x1 := Lib.hid (x1.out.below HB.out (by omega))
    replace x2 := Lib.hid (x2.out.below HB.out (by omega))
    replace x3 := Lib.hid (x3.out.below HB.out (by omega))
    replace x4 := Lib.hid (x4.out.below HB.out (by omega))
    replace Bx := Lib.hid (Bx.out.below HB.out (by omega))
    replace EB := Lib.hid (below_step HB.out EB.out (by omega))
    clear HB
    have y1 := Lib.hid hd0
    have y2 := Lib.hid hd1
    have y3 := Lib.hid hd2
    have y4 := Lib.hid hd3
    clear hd0 hd1 hd2 hd3
    have vxl := Bx.out.lt
    have vx0 := (Bx.out.2 0 _ rfl).1
    have vx1 := (Bx.out.2 1 _ rfl).1
    have vx2 := (Bx.out.2 2 _ rfl).1
    have vx3 := (Bx.out.2 3 _ rfl).1
    have vx4 := (Bx.out.2 4 _ rfl).1
    have vx5 := (Bx.out.2 5 _ rfl).1
    have vx6 := (Bx.out.2 6 _ rfl).1
    go_wp2_with fail
    clear vxl vx0 vx1 vx2 vx3 vx4 vx5 vx6
    replace d1 := Lib.hid (d1.out.alloc (by omega) (.cells #[.slice Ay ny cy, .int .i64 (0), .slice Ay' ny' cy', .int .i64 (0), .slice Ey my dy, .slice Fy ly ky, .int .i64 (0)] 29))
    replace d2 := Lib.hid (d2.out.alloc (by omega) (.cells #[.slice Ay ny cy, .int .i64 (0), .slice Ay' ny' cy', .int .i64 (0), .slice Ey my dy, .slice Fy ly ky, .int .i64 (0)] 29))
    replace Bd := Lib.hid (Bd.out.alloc (.cells #[.slice Ay ny cy, .int .i64 (0), .slice Ay' ny' cy', .int .i64 (0), .slice Ey my dy, .slice Fy ly ky, .int .i64 (0)] 29))
    replace x1 := Lib.hid (x1.out.alloc (by omega) (.cells #[.slice Ay ny cy, .int .i64 (0), .slice Ay' ny' cy', .int .i64 (0), .slice Ey my dy, .slice Fy ly ky, .int .i64 (0)] 29))
    replace x2 := Lib.hid (x2.out.alloc (by omega) (.cells #[.slice Ay ny cy, .int .i64 (0), .slice Ay' ny' cy', .int .i64 (0), .slice Ey my dy, .slice Fy ly ky, .int .i64 (0)] 29))
    replace x3 := Lib.hid (x3.out.alloc (by omega) (.cells #[.slice Ay ny cy, .int .i64 (0), .slice Ay' ny' cy', .int .i64 (0), .slice Ey my dy, .slice Fy ly ky, .int .i64 (0)] 29))
    replace x4 := Lib.hid (x4.out.alloc (by omega) (.cells #[.slice Ay ny cy, .int .i64 (0), .slice Ay' ny' cy', .int .i64 (0), .slice Ey my dy, .slice Fy ly ky, .int .i64 (0)] 29))
    replace Bx := Lib.hid (Bx.out.alloc (.cells #[.slice Ay ny cy, .int .i64 (0), .slice Ay' ny' cy', .int .i64 (0), .slice Ey my dy, .slice Fy ly ky, .int .i64 (0)] 29))
    replace y1 := Lib.hid (y1.out.alloc (by omega) (.cells #[.slice Ay ny cy, .int .i64 (0), .slice Ay' ny' cy', .int .i64 (0), .slice Ey my dy, .slice Fy ly ky, .int .i64 (0)] 29))
    replace y2 := Lib.hid (y2.out.alloc (by omega) (.cells #[.slice Ay ny cy, .int .i64 (0), .slice Ay' ny' cy', .int .i64 (0), .slice Ey my dy, .slice Fy ly ky, .int .i64 (0)] 29))
    replace y3 := Lib.hid (y3.out.alloc (by omega) (.cells #[.slice Ay ny cy, .int .i64 (0), .slice Ay' ny' cy', .int .i64 (0), .slice Ey my dy, .slice Fy ly ky, .int .i64 (0)] 29))
    replace y4 := Lib.hid (y4.out.alloc (by omega) (.cells #[.slice Ay ny cy, .int .i64 (0), .slice Ay' ny' cy', .int .i64 (0), .slice Ey my dy, .slice Fy ly ky, .int .i64 (0)] 29))
    replace EB := Lib.hid (EB.out.alloc (by omega) (.cells #[.slice Ay ny cy, .int .i64 (0), .slice Ay' ny' cy', .int .i64 (0), .slice Ey my dy, .slice Fy ly ky, .int .i64 (0)] 29))
    have By := Lib.hid (Box.new w5 29 [.slice Ay ny cy, .int .i64 (0), .slice Ay' ny' cy', .int .i64 (0), .slice Ey my dy, .slice Fy ly ky, .int .i64 (0)])
    have s6 : w5.heap.size + 1 ≤ (w5.alloc (.cells #[.slice Ay ny cy, .int .i64 (0), .slice Ay' ny' cy', .int .i64 (0), .slice Ey my dy, .slice Fy ly ky, .int .i64 (0)] 29)).heap.size := by simp
    generalize w5.alloc (.cells #[.slice Ay ny cy, .int .i64 (0), .slice Ay' ny' cy', .int .i64 (0), .slice Ey my dy, .slice Fy ly ky, .int .i64 (0)] 29) = w6 at *
    refine (equalBoth_same x1.out x2.out x3.out x4.out y1.out y2.out y3.out y4.out (by omega) (by omega) (by omega) (by omega) (by omega) (by omega) (by omega) (by omega)).mono ?_
    rintro e w7 ⟨rfl, hb⟩
    (try simp only [World.size_alloc, World.size_setCell, World.size_drew] at hb)
    have HB := Lib.hid hb
    clear hb
    have s7 := HB.out.size
    (try simp only [World.size_alloc, World.size_setCell, World.size_drew] at s7)
    replace d1 := Lib.hid (d1.out.below HB.out (by omega))
    replace d2 := Lib.hid (d2.out.below HB.out (by omega))
    replace Bd := Lib.hid (Bd.out.below HB.out (by omega))
    replace x1 := Lib.hid (x1.out.below HB.out (by omega))
    replace x2 := Lib.hid (x2.out.below HB.out (by omega))
    replace x3 := Lib.hid (x3.out.below HB.out (by omega))
    replace x4 := Lib.hid (x4.out.below HB.out (by omega))
    replace Bx := Lib.hid (Bx.out.below HB.out (by omega))
    replace y1 := Lib.hid (y1.out.below HB.out (by omega))
    replace y2 := Lib.hid (y2.out.below HB.out (by omega))
    replace y3 := Lib.hid (y3.out.below HB.out (by omega))
    replace y4 := Lib.hid (y4.out.below HB.out (by omega))
    replace By := Lib.hid (By.out.below HB.out (by omega))
    replace EB := Lib.hid (below_step HB.out EB.out (by omega))
    clear HB
    have vxl := Bx.out.lt
    have vx0 := (Bx.out.2 0 _ rfl).1
    have vx1 := (Bx.out.2 1 _ rfl).1
    have vx2 := (Bx.out.2 2 _ rfl).1
    have vx3 := (Bx.out.2 3 _ rfl).1
    have vx4 := (Bx.out.2 4 _ rfl).1
    have vx5 := (Bx.out.2 5 _ rfl).1
    have vx6 := (Bx.out.2 6 _ rfl).1
    have vyl := By.out.lt
    have vy0 := (By.out.2 0 _ rfl).1
    have vy1 := (By.out.2 1 _ rfl).1
    have vy2 := (By.out.2 2 _ rfl).1
    have vy3 := (By.out.2 3 _ rfl).1
    have vy4 := (By.out.2 4 _ rfl).1
    have vy5 := (By.out.2 5 _ rfl).1
    have vy6 := (By.out.2 6 _ rfl).1
    go_wp2_with fail
    refine (equalBoth_same x1.out x2.out x3.out x4.out y1.out y2.out y3.out y4.out (by omega) (by omega) (by omega) (by omega) (by omega) (by omega) (by omega) (by omega)).mono ?_
    clear vxl vx0 vx1 vx2 vx3 vx4 vx5 vx6 vyl vy0 vy1 vy2 vy3 vy4 vy5 vy6
    rintro e w8 ⟨rfl, hb⟩
    (try simp only [World.size_alloc, World.size_setCell, World.size_drew] at hb)
    have HB := Lib.hid hb
    clear hb
    have s8 := HB.out.size
    (try simp only [World.size_alloc, World.size_setCell, World.size_drew] at s8)
    replace d1 := Lib.hid (d1.out.below HB.out (by omega))
    replace d2 := Lib.hid (d2.out.below HB.out (by omega))
    replace Bd := Lib.hid (Bd.out.below HB.out (by omega))
    replace x1 := Lib.hid (x1.out.below HB.out (by omega))
    replace x2 := Lib.hid (x2.out.below HB.out (by omega))
    replace x3 := Lib.hid (x3.out.below HB.out (by omega))
    replace x4 := Lib.hid (x4.out.below HB.out (by omega))
    replace Bx := Lib.hid (Bx.out.below HB.out (by omega))
    replace y1 := Lib.hid (y1.out.below HB.out (by omega))
    replace y2 := Lib.hid (y2.out.below HB.out (by omega))
    replace y3 := Lib.hid (y3.out.below HB.out (by omega))
    replace y4 := Lib.hid (y4.out.below HB.out (by omega))
    replace By := Lib.hid (By.out.below HB.out (by omega))
    replace EB := Lib.hid (below_step HB.out EB.out (by omega))
    clear HB
    go_wp2
    go_ret
    exact ⟨rfl, EB.out⟩
  · refine (to_bb (NewBoth_x d1.out d2.out (by omega) (by omega) hcd hcd' (by omega) (by omega) (by unfold okInt; omega) (by unfold okInt; omega) (by unfold okInt; omega)) (newb_yes hv)).mono ?_
    rintro e w3 ⟨Ax, nx, cx, Ax', nx', cx', Ex, mx, dx, Fx, lx, kx, rfl, ⟨hcx, hcx', hcx'', hcx'''⟩, hb, hd0, hd1, hd2, hd3⟩
    (try simp only [World.size_alloc, World.size_setCell, World.size_drew] at hb)
    have HB := Lib.hid hb
    clear hb
    have s3 := HB.out.size
    (try simp only [World.size_alloc, World.size_setCell, World.size_drew] at s3)
    replace d1 := Lib.hid (d1.out.below HB.out (by omega))
    replace d2 := Lib.hid (d2.out.below HB.out (by omega))
    replace Bd := Lib.hid (Bd.out.below HB.out (by omega))
    replace EB := Lib.hid (below_step HB.out EB.out (by omega))
    clear HB
    have x1 := Lib.hid hd0
    have x2 := Lib.hid hd1
    have x3 := Lib.hid hd2
    have x4 := Lib.hid hd3
    clear hd0 hd1 hd2 hd3
    have vdl := Bd.out.lt
    have vd0 := (Bd.out.2 0 _ rfl).1
    have vd1 := (Bd.out.2 1 _ rfl).1
    have vd2 := (Bd.out.2 2 _ rfl).1
    have vd3 := (Bd.out.2 3 _ rfl).1
    go_wp2_with fail
    clear vdl vd0 vd1 vd2 vd3
    replace d1 := Lib.hid (d1.out.alloc (by omega) (.cells #[.slice Ax nx cx, .int .i64 (pd), .slice Ax' nx' cx', .int .i64 (qd), .slice Ex mx dx, .slice Fx lx kx, .int .i64 (zn)] 29))
    replace d2 := Lib.hid (d2.out.alloc (by omega) (.cells #[.slice Ax nx cx, .int .i64 (pd), .slice Ax' nx' cx', .int .i64 (qd), .slice Ex mx dx, .slice Fx lx kx, .int .i64 (zn)] 29))
    replace Bd := Lib.hid (Bd.out.alloc (.cells #[.slice Ax nx cx, .int .i64 (pd), .slice Ax' nx' cx', .int .i64 (qd), .slice Ex mx dx, .slice Fx lx kx, .int .i64 (zn)] 29))
    replace x1 := Lib.hid (x1.out.alloc (by omega) (.cells #[.slice Ax nx cx, .int .i64 (pd), .slice Ax' nx' cx', .int .i64 (qd), .slice Ex mx dx, .slice Fx lx kx, .int .i64 (zn)] 29))
    replace x2 := Lib.hid (x2.out.alloc (by omega) (.cells #[.slice Ax nx cx, .int .i64 (pd), .slice Ax' nx' cx', .int .i64 (qd), .slice Ex mx dx, .slice Fx lx kx, .int .i64 (zn)] 29))
    replace x3 := Lib.hid (x3.out.alloc (by omega) (.cells #[.slice Ax nx cx, .int .i64 (pd), .slice Ax' nx' cx', .int .i64 (qd), .slice Ex mx dx, .slice Fx lx kx, .int .i64 (zn)] 29))
    replace x4 := Lib.hid (x4.out.alloc (by omega) (.cells #[.slice Ax nx cx, .int .i64 (pd), .slice Ax' nx' cx', .int .i64 (qd), .slice Ex mx dx, .slice Fx lx kx, .int .i64 (zn)] 29))
    replace EB := Lib.hid (EB.out.alloc (by omega) (.cells #[.slice Ax nx cx, .int .i64 (pd), .slice Ax' nx' cx', .int .i64 (qd), .slice Ex mx dx, .slice Fx lx kx, .int .i64 (zn)] 29))
    have Bx := Lib.hid (Box.new w3 29 [.slice Ax nx cx, .int .i64 (pd), .slice Ax' nx' cx', .int .i64 (qd), .slice Ex mx dx, .slice Fx lx kx, .int .i64 (zn)])
    have s4 : w3.heap.size + 1 ≤ (w3.alloc (.cells #[.slice Ax nx cx, .int .i64 (pd), .slice Ax' nx' cx', .int .i64 (qd), .slice Ex mx dx, .slice Fx lx kx, .int .i64 (zn)] 29)).heap.size := by simp
    generalize w3.alloc (.cells #[.slice Ax nx cx, .int .i64 (pd), .slice Ax' nx' cx', .int .i64 (qd), .slice Ex mx dx, .slice Fx lx kx, .int .i64 (zn)] 29) = w4 at *
    refine (to_bb (SNewBoth_x d1.out d2.out (by omega) (by omega) hcd hcd' (by omega) (by omega) (by unfold okInt; omega) (by unfold okInt; omega) (by unfold okInt; omega)) (newb_yes hv)).mono ?_
    rintro e w5 ⟨Ay, ny, cy, Ay', ny', cy', Ey, my, dy, Fy, ly, ky, rfl, ⟨hcy, hcy', hcy'', hcy'''⟩, hb, hd0, hd1, hd2, hd3⟩
    (try simp only [World.size_alloc, World.size_setCell, World.size_drew] at hb)
    have HB := Lib.hid hb
    clear hb
    have s5 := HB.out.size
    (try simp only [World.size_alloc, World.size_setCell, World.size_drew] at s5)
    replace d1 := Lib.hid (d1.out.below HB.out (by omega))
    replace d2 := Lib.hid (d2.out.below HB.out (by omega))
    replace Bd := Lib.hid (Bd.out.below HB.out (by omega))
    replace x1 := Lib.hid (x1.out.below HB.out (by omega))
    replace x2 := Lib.hid (x2.out.below HB.out (by omega))
    replace x3 := Lib.hid (x3.out.below HB.out (by omega))
    replace x4 := Lib.hid (x4.out.below HB.out (by omega))
    replace Bx := Lib.hid (Bx.out.below HB.out (by omega))
    replace EB := Lib.hid (below_step HB.out EB.out (by omega))
    clear HB
    have y1 := Lib.hid hd0
    have y2 := Lib.hid hd1
    have y3 := Lib.hid hd2
    have y4 := Lib.hid hd3
    clear hd0 hd1 hd2 hd3
    have vxl := Bx.out.lt
    have vx0 := (Bx.out.2 0 _ rfl).1
    have vx1 := (Bx.out.2 1 _ rfl).1
    have vx2 := (Bx.out.2 2 _ rfl).1
    have vx3 := (Bx.out.2 3 _ rfl).1
    have vx4 := (Bx.out.2 4 _ rfl).1
    have vx5 := (Bx.out.2 5 _ rfl).1
    have vx6 := (Bx.out.2 6 _ rfl).1
    go_wp2_with fail
    clear vxl vx0 vx1 vx2 vx3 vx4 vx5 vx6
    replace d1 := Lib.hid (d1.out.alloc (by omega) (.cells #[.slice Ay ny cy, .int .i64 (pd), .slice Ay' ny' cy', .int .i64 (qd), .slice Ey my dy, .slice Fy ly ky, .int .i64 (zn)] 29))
    replace d2 := Lib.hid (d2.out.alloc (by omega) (.cells #[.slice Ay ny cy, .int .i64 (pd), .slice Ay' ny' cy', .int .i64 (qd), .slice Ey my dy, .slice Fy ly ky, .int .i64 (zn)] 29))
    replace Bd := Lib.hid (Bd.out.alloc (.cells #[.slice Ay ny cy, .int .i64 (pd), .slice Ay' ny' cy', .int .i64 (qd), .slice Ey my dy, .slice Fy ly ky, .int .i64 (zn)] 29))
    replace x1 := Lib.hid (x1.out.alloc (by omega) (.cells #[.slice Ay ny cy, .int .i64 (pd), .slice Ay' ny' cy', .int .i64 (qd), .slice Ey my dy, .slice Fy ly ky, .int .i64 (zn)] 29))
    replace x2 := Lib.hid (x2.out.alloc (by omega) (.cells #[.slice Ay ny cy, .int .i64 (pd), .slice Ay' ny' cy', .int .i64 (qd), .slice Ey my dy, .slice Fy ly ky, .int .i64 (zn)] 29))
    replace x3 := Lib.hid (x3.out.alloc (by omega) (.cells #[.slice Ay ny cy, .int .i64 (pd), .slice Ay' ny' cy', .int .i64 (qd), .slice Ey my dy, .slice Fy ly ky, .int .i64 (zn)] 29))
    replace x4 := Lib.hid (x4.out.alloc (by omega) (.cells #[.slice Ay ny cy, .int .i64 (pd), .slice Ay' ny' cy', .int .i64 (qd), .slice Ey my dy, .slice Fy ly ky, .int .i64 (zn)] 29))
    replace Bx := Lib.hid (Bx.out.alloc (.cells #[.slice Ay ny cy, .int .i64 (pd), .slice Ay' ny' cy', .int .i64 (qd), .slice Ey my dy, .slice Fy ly ky, .int .i64 (zn)] 29))
    replace y1 := Lib.hid (y1.out.alloc (by omega) (.cells #[.slice Ay ny cy, .int .i64 (pd), .slice Ay' ny' cy', .int .i64 (qd), .slice Ey my dy, .slice Fy ly ky, .int .i64 (zn)] 29))
    replace y2 := Lib.hid (y2.out.alloc (by omega) (.cells #[.slice Ay ny cy, .int .i64 (pd), .slice Ay' ny' cy', .int .i64 (qd), .slice Ey my dy, .slice Fy ly ky, .int .i64 (zn)] 29))
    replace y3 := Lib.hid (y3.out.alloc (by omega) (.cells #[.slice Ay ny cy, .int .i64 (pd), .slice Ay' ny' cy', .int .i64 (qd), .slice Ey my dy, .slice Fy ly ky, .int .i64 (zn)] 29))
    replace y4 := Lib.hid (y4.out.alloc (by omega) (.cells #[.slice Ay ny cy, .int .i64 (pd), .slice Ay' ny' cy', .int .i64 (qd), .slice Ey my dy, .slice Fy ly ky, .int .i64 (zn)] 29))
    replace EB := Lib.hid (EB.out.alloc (by omega) (.cells #[.slice Ay ny cy, .int .i64 (pd), .slice Ay' ny' cy', .int .i64 (qd), .slice Ey my dy, .slice Fy ly ky, .int .i64 (zn)] 29))
    have By := Lib.hid (Box.new w5 29 [.slice Ay ny cy, .int .i64 (pd), .slice Ay' ny' cy', .int .i64 (qd), .slice Ey my dy, .slice Fy ly ky, .int .i64 (zn)])
    have s6 : w5.heap.size + 1 ≤ (w5.alloc (.cells #[.slice Ay ny cy, .int .i64 (pd), .slice Ay' ny' cy', .int .i64 (qd), .slice Ey my dy, .slice Fy ly ky, .int .i64 (zn)] 29)).heap.size := by simp
    generalize w5.alloc (.cells #[.slice Ay ny cy, .int .i64 (pd), .slice Ay' ny' cy', .int .i64 (qd), .slice Ey my dy, .slice Fy ly ky, .int .i64 (zn)] 29) = w6 at *
    refine (equalBoth_same x1.out x2.out x3.out x4.out y1.out y2.out y3.out y4.out (by omega) (by omega) (by omega) (by omega) (by omega) (by omega) (by omega) (by omega)).mono ?_
    rintro e w7 ⟨rfl, hb⟩
    (try simp only [World.size_alloc, World.size_setCell, World.size_drew] at hb)
    have HB := Lib.hid hb
    clear hb
    have s7 := HB.out.size
    (try simp only [World.size_alloc, World.size_setCell, World.size_drew] at s7)
    replace d1 := Lib.hid (d1.out.below HB.out (by omega))
    replace d2 := Lib.hid (d2.out.below HB.out (by omega))
    replace Bd := Lib.hid (Bd.out.below HB.out (by omega))
    replace x1 := Lib.hid (x1.out.below HB.out (by omega))
    replace x2 := Lib.hid (x2.out.below HB.out (by omega))
    replace x3 := Lib.hid (x3.out.below HB.out (by omega))
    replace x4 := Lib.hid (x4.out.below HB.out (by omega))
    replace Bx := Lib.hid (Bx.out.below HB.out (by omega))
    replace y1 := Lib.hid (y1.out.below HB.out (by omega))
    replace y2 := Lib.hid (y2.out.below HB.out (by omega))
    replace y3 := Lib.hid (y3.out.below HB.out (by omega))
    replace y4 := Lib.hid (y4.out.below HB.out (by omega))
    replace By := Lib.hid (By.out.below HB.out (by omega))
    replace EB := Lib.hid (below_step HB.out EB.out (by omega))
    clear HB
    clear y1 y2 y3 y4 By
    have hnx1 : nx ≤ 1048576 := by have h1 := x1.out.len; have h2 := d1.out.len; omega
    have hnx2 : nx' ≤ 1048576 := by have h1 := x2.out.len; have h2 := d2.out.len; omega
    have hnx3 : mx ≤ 1048576 := by have h1 := x3.out.len; simp at h1; omega
    have hnx4 : lx ≤ 1048576 := by have h1 := x4.out.len; simp at h1; omega
    have PE := Lib.hid (po_new hv)
    have hvk := Lib.hid hv
    clear hv
    have vxl := Bx.out.lt
    have vx0 := (Bx.out.2 0 _ rfl).1
    have vx1 := (Bx.out.2 1 _ rfl).1
    have vx2 := (Bx.out.2 2 _ rfl).1
    have vx3 := (Bx.out.2 3 _ rfl).1
    have vx4 := (Bx.out.2 4 _ rfl).1
    have vx5 := (Bx.out.2 5 _ rfl).1
    have vx6 := (Bx.out.2 6 _ rfl).1
    have vdl := Bd.out.lt
    have vd0 := (Bd.out.2 0 _ rfl).1
    have vd1 := (Bd.out.2 1 _ rfl).1
    have vd2 := (Bd.out.2 2 _ rfl).1
    have vd3 := (Bd.out.2 3 _ rfl).1
    go_wp2_with fail
    go_region_held3 (fun w' => (w'.cell? ⟨w3.heap.size, 0, none⟩ = some (.slice Ax nx cx) ∧ w'.cell? ⟨w3.heap.size, 1, none⟩ = some (.int .i64 (pd)) ∧ w'.cell? ⟨w3.heap.size, 2, none⟩ = some (.slice Ax' nx' cx') ∧ w'.cell? ⟨w3.heap.size, 3, none⟩ = some (.int .i64 (qd)) ∧ w'.cell? ⟨w3.heap.size, 4, none⟩ = some (.slice Ex mx dx) ∧ w'.cell? ⟨w3.heap.size, 5, none⟩ = some (.slice Fx lx kx) ∧ w'.cell? ⟨w3.heap.size, 6, none⟩ = some (.int .i64 (zn))) ∧ (w'.cell? ⟨w1.heap.size, 0, none⟩ = some (.slice Ad nd cd) ∧ w'.cell? ⟨w1.heap.size, 1, none⟩ = some (.int .i64 (pd)) ∧ w'.cell? ⟨w1.heap.size, 2, none⟩ = some (.slice Ad' nd' cd') ∧ w'.cell? ⟨w1.heap.size, 3, none⟩ = some (.int .i64 (qd)))) (go_keep)
      (first | (go_at_call 13; (with_reducible refine (to_pn (PlainOf_x x1.out.drew x2.out.drew x3.out.drew x4.out.drew (by first | omega | (simp; omega) | (simp; done)) (by first | omega | (simp; omega) | (simp; done)) (by first | omega | (simp; omega) | (simp; done)) (by first | omega | (simp; omega) | (simp; done)) hcx hcx' hcx'' hcx''' hnx1 hnx2 hnx3 hnx4) PE.out).mono ?_); rintro e wr0 ⟨Ao, no, co, rfl, hco, hb, hl⟩; (try simp only [World.size_alloc, World.size_setCell, World.size_drew] at hb hl); have HR0 := Lib.hid hb; have sr0 := hb.size; (try simp only [World.size_alloc, World.size_setCell, World.size_drew] at sr0); have Yx0 := Lib.hid (Bx.out.drew.below hb (by omega)); have Yd0 := Lib.hid (Bd.out.drew.below hb (by omega)); have o1 := Lib.hid hl; clear hb hl; have vx0 := (Yx0.out.2 0 _ rfl).1; have vx1 := (Yx0.out.2 1 _ rfl).1; have vx2 := (Yx0.out.2 2 _ rfl).1; have vx3 := (Yx0.out.2 3 _ rfl).1; have vx4 := (Yx0.out.2 4 _ rfl).1; have vx5 := (Yx0.out.2 5 _ rfl).1; have vx6 := (Yx0.out.2 6 _ rfl).1; have vd0 := (Yd0.out.2 0 _ rfl).1; have vd1 := (Yd0.out.2 1 _ rfl).1; have vd2 := (Yd0.out.2 2 _ rfl).1; have vd3 := (Yd0.out.2 3 _ rfl).1) | (go_at_call 12; (with_reducible refine (equalPlain_same o1.out (d1.out.drew.below HR0.out (by first | omega | (simp; omega) | (simp; done))) (by first | omega | (simp; omega) | (simp; done)) (by first | omega | (simp; omega) | (simp; done))).mono ?_); rintro e wr1 ⟨rfl, hb⟩; (try simp only [World.size_alloc, World.size_setCell, World.size_drew] at hb); have HR1 := Lib.hid hb; have sr1 := hb.size; (try simp only [World.size_alloc, World.size_setCell, World.size_drew] at sr1); have Yx1 := Lib.hid (Yx0.out.below hb (by omega)); have Yd1 := Lib.hid (Yd0.out.below hb (by omega)); clear hb; have vx0 := (Yx1.out.2 0 _ rfl).1; have vx1 := (Yx1.out.2 1 _ rfl).1; have vx2 := (Yx1.out.2 2 _ rfl).1; have vx3 := (Yx1.out.2 3 _ rfl).1; have vx4 := (Yx1.out.2 4 _ rfl).1; have vx5 := (Yx1.out.2 5 _ rfl).1; have vx6 := (Yx1.out.2 6 _ rfl).1; have vd0 := (Yd1.out.2 0 _ rfl).1; have vd1 := (Yd1.out.2 1 _ rfl).1; have vd2 := (Yd1.out.2 2 _ rfl).1; have vd3 := (Yd1.out.2 3 _ rfl).1) | (go_at_call 14; (with_reducible refine (to_bool (ValidBoth_any ((x1.out.drew.below HR0.out (by first | omega | (simp; omega) | (simp; done))).below HR1.out (by first | omega | (simp; omega) | (simp; done))) ((x2.out.drew.below HR0.out (by first | omega | (simp; omega) | (simp; done))).below HR1.out (by first | omega | (simp; omega) | (simp; done))) ((x3.out.drew.below HR0.out (by first | omega | (simp; omega) | (simp; done))).below HR1.out (by first | omega | (simp; omega) | (simp; done))) ((x4.out.drew.below HR0.out (by first | omega | (simp; omega) | (simp; done))).below HR1.out (by first | omega | (simp; omega) | (simp; done))) (by first | omega | (simp; omega) | (simp; done)) (by first | omega | (simp; omega) | (simp; done)) (by first | omega | (simp; omega) | (simp; done)) (by first | omega | (simp; omega) | (simp; done)) hcx) hvk.out).mono ?_); rintro e wr2 ⟨rfl, hb⟩; (try simp only [World.size_alloc, World.size_setCell, World.size_drew] at hb); have HR2 := Lib.hid hb; have sr2 := hb.size; (try simp only [World.size_alloc, World.size_setCell, World.size_drew] at sr2); have Yx2 := Lib.hid (Yx1.out.below hb (by omega)); have Yd2 := Lib.hid (Yd1.out.below hb (by omega)); clear hb; have vx0 := (Yx2.out.2 0 _ rfl).1; have vx1 := (Yx2.out.2 1 _ rfl).1; have vx2 := (Yx2.out.2 2 _ rfl).1; have vx3 := (Yx2.out.2 3 _ rfl).1; have vx4 := (Yx2.out.2 4 _ rfl).1; have vx5 := (Yx2.out.2 5 _ rfl).1; have vx6 := (Yx2.out.2 6 _ rfl).1; have vd0 := (Yd2.out.2 0 _ rfl).1; have vd1 := (Yd2.out.2 1 _ rfl).1; have vd2 := (Yd2.out.2 2 _ rfl).1; have vd3 := (Yd2.out.2 3 _ rfl).1))
    go_wp2
    go_ret
    exact ⟨rfl, (below_step HR2.out (below_step HR1.out (below_step HR0.out EB.out.drew (by first | omega | (simp; omega) | (simp; done))) (by first | omega | (simp; omega) | (simp; done))) (by first | omega | (simp; omega) | (simp; done)))⟩

theorem contract (H : Type) (enc : TypeId × Value → H) (W : World) (base : Nat) (args : Array Value) (ds gs : List (DataW H)) (before : List MemPlace)
    (hval : ∀ (j : Nat) t v, Try.f3.params[j]? = some t → args[j]? = some v → Value.okWide Try.prog W .any base t v)
    (hW : DataW.Whole enc Try.prog Try.f3.params.toList Rows.fnNewBothSpec.vars false W args.toList ds gs before) :
    Calls Try.prog 3 args W fun e W' => ∃ v, e = .returned v ∧ Rows.fnNewBothSpec.post enc Try.prog Try.f3 false true false false W args v W' := by
  have hW' := hW
  have hlt : ∀ p ∈ before, p.block < W.heap.size := fun p hp => hW.lt p hp
  obtain ⟨p, q, hA0, hV, rfl, hfz, hnd⟩ := hW
  have hA : DataW.TrodAll enc Try.prog W 0 (fun _ => true) true Try.f3.params.toList args.toList ds p := hA0
  rw [Try.params3] at hA hval
  obtain ⟨v0, vs0, d0, ds0, p0, q0, hargs, rfl, rfl, h0, r0⟩ := trodAll_cons hA
  obtain ⟨rfl, rfl, rfl⟩ := trodAll_nil r0
  obtain rfl : args = #[v0] := by cases args; simp_all
  obtain ⟨rfl, rfl⟩ := trodVars_none hV
  obtain ⟨A, n, c, rfl, hnc, hby, hmx⟩ := arg_bytes (hval 0 _ v0 rfl rfl) h0 (fun p hp => hlt p (by simp [hp]))
  refine (walk A n c W hby hnc hmx).mono fun e W' hh => ?_
  obtain ⟨rfl, hb⟩ := hh
  exact ⟨_, rfl, law_post laidOut (tys_of (by rw [Try.params3]; kernel_rfl)) hW' rfl rfl rfl Try.underlying4 hb⟩

set_option maxRecDepth 100000 in
theorem lifted (os : Os) (started : os.Started) (H : Type) (enc : TypeId × Value → H) :
    ReturnsInHanded {} Try.checked os 3 .any (Rows.fnNewBothSpec.pre6 enc Try.prog Try.f3 Rows.fnNewBothRow.domain false) (Rows.fnNewBothSpec.post enc Try.prog Try.f3 false true false false) := by
  refine returnsInHanded_of_change (C := Try.checked) own started (by kernel_rfl) Try.func3
    (ChangeSpec.witness6 (C := Try.checked) false ⟨#[], #[.slice none 0 0], []⟩ 8 (by kernel_rfl) (by kernel_rfl) (by kernel_rfl) (by kernel_rfl)) ?_
  intro W base args ds gs before hval hW _ _
  exact contract H enc W base args ds gs before hval hW

theorem holds : Rows.FnNewBothSaid :=
  OpenClaim.holds_of_wide 3 Try.f3 rfl rfl rfl rfl rfl rfl rfl ⟨rfl, rfl, rfl, rfl, rfl⟩ rfl rfl rfl rfl rfl (by kernel_rfl) Try.func3 (by kernel_rfl)
    (of_decide_eq_true (by kernel_rfl)) (by unfold Func.isWrapper; first | (rw [if_pos (by decide +kernel)]; kernel_rfl) | (rw [if_neg (by decide +kernel)]; exact ⟨rfl, rfl⟩))
    (fun os started H enc _ => lifted os started H enc)
end LawNewBoth
end Go.Proofs.Ytdiebkaedjlckaa
