/- The law of promise 30: two writings are one. No conditions. -/
import Derived.Test.YtdiebkaedjlckaaDoorG1
import Derived.Test.YtdiebkaedjlckaaDoorW3
import Derived.Test.YtdiebkaedjlckaaDoorW4
import Derived.Test.YtdiebkaedjlckaaDoorW5
import Derived.Test.YtdiebkaedjlckaaDoorW7
import Derived.Test.YtdiebkaedjlckaaDoorT4
import Derived.Test.YtdiebkaedjlckaaDoorT7
import Derived.Test.YtdiebkaedjlckaaDoorW6
import Derived.Test.YtdiebkaedjlckaaDoorER3
import Derived.Test.YtdiebkaedjlckaaDoorCards
import Derived.Test.YtdiebkaedjlckaaDoorTie
set_option maxRecDepth 10000
namespace Go.Proofs.YtdiebkaedjlckaaDoor
open Go.ChangeShapes Go.WideShapes Go.ChangeAt Go.RowKit
set_option linter.unusedSimpArgs false
set_option linter.unusedVariables false
namespace LawWriteBytesTwice
set_option maxHeartbeats 8000000 in
theorem walk {a0 a1 a2 : Addr} (A : Option Addr) (n c : Nat) (w : World) (h : BytesIn w w.heap.size A n) (hnc : n ≤ c) (hm : n ≤ 9223372036854775807) (HE : Errs w w.heap.size a0 a1 a2) :
    Calls Tryd.prog 9 #[.slice A n c] w (BoolB true w) := by
  have HBY := Lib.hid h
  clear h
  have EB := Lib.hid (Below.refl w.heap.size w)
  by_cases hbig : (1048576 : Int) < (n : Int)
  · go_enter Tryd.func9, Tryd.ntmps9
    go_wp2
    go_ret
    exact ⟨rfl, Below.refl _ _⟩
  go_enter Tryd.func9, Tryd.ntmps9
  go_wp2_with fail
  refine (DrawWriteBytes_any HBY.out (by omega) hnc).mono ?_
  rintro e w1 ⟨Ad, nd, cd, Ad', nd', cd', Ed, md, kd, Dd, Sd, Rd, pd, qd, yd, Al, nl, cl, Ll, rfl, ⟨⟨hcd, hcd', hkd⟩, ⟨hnd, hnd', hmd⟩, hpd, hqd, hyd, hb, hd, hd', hr⟩, hcl, hnl, hLx, hl⟩
  (try simp only [World.size_alloc, World.size_setCell, World.size_drew] at hb)
  have HB := Lib.hid hb
  clear hb
  have s1 := HB.out.size
  (try simp only [World.size_alloc, World.size_setCell, World.size_drew] at s1)
  replace EB := Lib.hid (below_step HB.out EB.out (by omega))
  clear HB
  clear HBY hLx
  have l1 := Lib.hid hl
  clear hl
  have d1 := Lib.hid hd
  have d2 := Lib.hid hd'
  have d3 := Lib.hid hr
  clear hd hd' hr
  go_wp2_with fail
  replace l1 := Lib.hid (l1.out.alloc (by omega) (.cells #[.slice Ad nd cd, .int .i64 (pd), .slice Ad' nd' cd', .int .i64 (qd), .slice Ed md kd, .int .i64 (yd)] 30))
  replace d1 := Lib.hid (d1.out.alloc (by omega) (.cells #[.slice Ad nd cd, .int .i64 (pd), .slice Ad' nd' cd', .int .i64 (qd), .slice Ed md kd, .int .i64 (yd)] 30))
  replace d2 := Lib.hid (d2.out.alloc (by omega) (.cells #[.slice Ad nd cd, .int .i64 (pd), .slice Ad' nd' cd', .int .i64 (qd), .slice Ed md kd, .int .i64 (yd)] 30))
  replace d3 := Lib.hid (d3.out.alloc (by omega) (.cells #[.slice Ad nd cd, .int .i64 (pd), .slice Ad' nd' cd', .int .i64 (qd), .slice Ed md kd, .int .i64 (yd)] 30))
  replace EB := Lib.hid (EB.out.alloc (by omega) (.cells #[.slice Ad nd cd, .int .i64 (pd), .slice Ad' nd' cd', .int .i64 (qd), .slice Ed md kd, .int .i64 (yd)] 30))
  have Bd := Lib.hid (Box.new w1 30 [.slice Ad nd cd, .int .i64 (pd), .slice Ad' nd' cd', .int .i64 (qd), .slice Ed md kd, .int .i64 (yd)])
  have s2 : w1.heap.size + 1 ≤ (w1.alloc (.cells #[.slice Ad nd cd, .int .i64 (pd), .slice Ad' nd' cd', .int .i64 (qd), .slice Ed md kd, .int .i64 (yd)] 30)).heap.size := by simp
  generalize w1.alloc (.cells #[.slice Ad nd cd, .int .i64 (pd), .slice Ad' nd' cd', .int .i64 (qd), .slice Ed md kd, .int .i64 (yd)] 30) = w2 at *
  cases hg : (goodW Dd pd Sd qd Rd yd && bytesB Ll)
  · have HO := Lib.hid (wb_no (e := -1) hg)
    have vdl := Bd.out.lt
    have vd0 := (Bd.out.2 0 _ rfl).1
    have vd1 := (Bd.out.2 1 _ rfl).1
    have vd2 := (Bd.out.2 2 _ rfl).1
    have vd3 := (Bd.out.2 3 _ rfl).1
    have vd4 := (Bd.out.2 4 _ rfl).1
    have vd5 := (Bd.out.2 5 _ rfl).1
    go_wp2_with fail
    refine (to_rii (WriteBytes_x (HE.below EB.out (Nat.le_refl _)) EB.out.size d1.out d2.out d3.out l1.out (by omega) (by omega) (by omega) (by omega) hcd hcd' hkd hcl (by omega) (by omega) (by omega) (by omega)) HO.out).mono ?_
    clear vdl vd0 vd1 vd2 vd3 vd4 vd5
    rintro e w3 ⟨Ax, nx, cx, Ax', nx', cx', Ex, mx, kx, rfl, ⟨hcx, hcx', hkx⟩, hb, hd, hd', hr⟩
    (try simp only [World.size_alloc, World.size_setCell, World.size_drew] at hb)
    have HB := Lib.hid hb
    clear hb
    have s3 := HB.out.size
    (try simp only [World.size_alloc, World.size_setCell, World.size_drew] at s3)
    replace l1 := Lib.hid (l1.out.below HB.out (by omega))
    replace d1 := Lib.hid (d1.out.below HB.out (by omega))
    replace d2 := Lib.hid (d2.out.below HB.out (by omega))
    replace d3 := Lib.hid (d3.out.below HB.out (by omega))
    replace Bd := Lib.hid (Bd.out.below HB.out (by omega))
    replace EB := Lib.hid (below_step HB.out EB.out (by omega))
    clear HB
    have x1 := Lib.hid hd
    have x2 := Lib.hid hd'
    have x3 := Lib.hid hr
    clear hd hd' hr
    have vdl := Bd.out.lt
    have vd0 := (Bd.out.2 0 _ rfl).1
    have vd1 := (Bd.out.2 1 _ rfl).1
    have vd2 := (Bd.out.2 2 _ rfl).1
    have vd3 := (Bd.out.2 3 _ rfl).1
    have vd4 := (Bd.out.2 4 _ rfl).1
    have vd5 := (Bd.out.2 5 _ rfl).1
    go_wp2_with fail
    clear vdl vd0 vd1 vd2 vd3 vd4 vd5
    replace l1 := Lib.hid (l1.out.alloc (by omega) (.cells #[.slice Ax nx cx, .int .i64 (0), .slice Ax' nx' cx', .int .i64 (0), .slice Ex mx kx, .int .i64 (0)] 30))
    replace d1 := Lib.hid (d1.out.alloc (by omega) (.cells #[.slice Ax nx cx, .int .i64 (0), .slice Ax' nx' cx', .int .i64 (0), .slice Ex mx kx, .int .i64 (0)] 30))
    replace d2 := Lib.hid (d2.out.alloc (by omega) (.cells #[.slice Ax nx cx, .int .i64 (0), .slice Ax' nx' cx', .int .i64 (0), .slice Ex mx kx, .int .i64 (0)] 30))
    replace d3 := Lib.hid (d3.out.alloc (by omega) (.cells #[.slice Ax nx cx, .int .i64 (0), .slice Ax' nx' cx', .int .i64 (0), .slice Ex mx kx, .int .i64 (0)] 30))
    replace Bd := Lib.hid (Bd.out.alloc (.cells #[.slice Ax nx cx, .int .i64 (0), .slice Ax' nx' cx', .int .i64 (0), .slice Ex mx kx, .int .i64 (0)] 30))
    replace x1 := Lib.hid (x1.out.alloc (by omega) (.cells #[.slice Ax nx cx, .int .i64 (0), .slice Ax' nx' cx', .int .i64 (0), .slice Ex mx kx, .int .i64 (0)] 30))
    replace x2 := Lib.hid (x2.out.alloc (by omega) (.cells #[.slice Ax nx cx, .int .i64 (0), .slice Ax' nx' cx', .int .i64 (0), .slice Ex mx kx, .int .i64 (0)] 30))
    replace x3 := Lib.hid (x3.out.alloc (by omega) (.cells #[.slice Ax nx cx, .int .i64 (0), .slice Ax' nx' cx', .int .i64 (0), .slice Ex mx kx, .int .i64 (0)] 30))
    replace EB := Lib.hid (EB.out.alloc (by omega) (.cells #[.slice Ax nx cx, .int .i64 (0), .slice Ax' nx' cx', .int .i64 (0), .slice Ex mx kx, .int .i64 (0)] 30))
    have Bx := Lib.hid (Box.new w3 30 [.slice Ax nx cx, .int .i64 (0), .slice Ax' nx' cx', .int .i64 (0), .slice Ex mx kx, .int .i64 (0)])
    have s4 : w3.heap.size + 1 ≤ (w3.alloc (.cells #[.slice Ax nx cx, .int .i64 (0), .slice Ax' nx' cx', .int .i64 (0), .slice Ex mx kx, .int .i64 (0)] 30)).heap.size := by simp
    generalize w3.alloc (.cells #[.slice Ax nx cx, .int .i64 (0), .slice Ax' nx' cx', .int .i64 (0), .slice Ex mx kx, .int .i64 (0)] 30) = w4 at *
    refine (to_rii (SWriteBytes_x d1.out d2.out d3.out l1.out (by omega) (by omega) (by omega) (by omega) hcd hcd' hkd hcl (by omega) (by omega) (by omega) (by omega)) HO.out).mono ?_
    rintro e w5 ⟨Ay, ny, cy, Ay', ny', cy', Ey, my, ky, rfl, ⟨hcy, hcy', hky⟩, hb, hd, hd', hr⟩
    (try simp only [World.size_alloc, World.size_setCell, World.size_drew] at hb)
    have HB := Lib.hid hb
    clear hb
    have s5 := HB.out.size
    (try simp only [World.size_alloc, World.size_setCell, World.size_drew] at s5)
    replace l1 := Lib.hid (l1.out.below HB.out (by omega))
    replace d1 := Lib.hid (d1.out.below HB.out (by omega))
    replace d2 := Lib.hid (d2.out.below HB.out (by omega))
    replace d3 := Lib.hid (d3.out.below HB.out (by omega))
    replace Bd := Lib.hid (Bd.out.below HB.out (by omega))
    replace x1 := Lib.hid (x1.out.below HB.out (by omega))
    replace x2 := Lib.hid (x2.out.below HB.out (by omega))
    replace x3 := Lib.hid (x3.out.below HB.out (by omega))
    replace Bx := Lib.hid (Bx.out.below HB.out (by omega))
    replace EB := Lib.hid (below_step HB.out EB.out (by omega))
    clear HB
    have y1 := Lib.hid hd
    have y2 := Lib.hid hd'
    have y3 := Lib.hid hr
    clear hd hd' hr
    have vxl := Bx.out.lt
    have vx0 := (Bx.out.2 0 _ rfl).1
    have vx1 := (Bx.out.2 1 _ rfl).1
    have vx2 := (Bx.out.2 2 _ rfl).1
    have vx3 := (Bx.out.2 3 _ rfl).1
    have vx4 := (Bx.out.2 4 _ rfl).1
    have vx5 := (Bx.out.2 5 _ rfl).1
    go_wp2_with fail
    clear vxl vx0 vx1 vx2 vx3 vx4 vx5
    replace l1 := Lib.hid (l1.out.alloc (by omega) (.cells #[.slice Ay ny cy, .int .i64 (0), .slice Ay' ny' cy', .int .i64 (0), .slice Ey my ky, .int .i64 (0)] 30))
    replace d1 := Lib.hid (d1.out.alloc (by omega) (.cells #[.slice Ay ny cy, .int .i64 (0), .slice Ay' ny' cy', .int .i64 (0), .slice Ey my ky, .int .i64 (0)] 30))
    replace d2 := Lib.hid (d2.out.alloc (by omega) (.cells #[.slice Ay ny cy, .int .i64 (0), .slice Ay' ny' cy', .int .i64 (0), .slice Ey my ky, .int .i64 (0)] 30))
    replace d3 := Lib.hid (d3.out.alloc (by omega) (.cells #[.slice Ay ny cy, .int .i64 (0), .slice Ay' ny' cy', .int .i64 (0), .slice Ey my ky, .int .i64 (0)] 30))
    replace Bd := Lib.hid (Bd.out.alloc (.cells #[.slice Ay ny cy, .int .i64 (0), .slice Ay' ny' cy', .int .i64 (0), .slice Ey my ky, .int .i64 (0)] 30))
    replace x1 := Lib.hid (x1.out.alloc (by omega) (.cells #[.slice Ay ny cy, .int .i64 (0), .slice Ay' ny' cy', .int .i64 (0), .slice Ey my ky, .int .i64 (0)] 30))
    replace x2 := Lib.hid (x2.out.alloc (by omega) (.cells #[.slice Ay ny cy, .int .i64 (0), .slice Ay' ny' cy', .int .i64 (0), .slice Ey my ky, .int .i64 (0)] 30))
    replace x3 := Lib.hid (x3.out.alloc (by omega) (.cells #[.slice Ay ny cy, .int .i64 (0), .slice Ay' ny' cy', .int .i64 (0), .slice Ey my ky, .int .i64 (0)] 30))
    replace Bx := Lib.hid (Bx.out.alloc (.cells #[.slice Ay ny cy, .int .i64 (0), .slice Ay' ny' cy', .int .i64 (0), .slice Ey my ky, .int .i64 (0)] 30))
    replace y1 := Lib.hid (y1.out.alloc (by omega) (.cells #[.slice Ay ny cy, .int .i64 (0), .slice Ay' ny' cy', .int .i64 (0), .slice Ey my ky, .int .i64 (0)] 30))
    replace y2 := Lib.hid (y2.out.alloc (by omega) (.cells #[.slice Ay ny cy, .int .i64 (0), .slice Ay' ny' cy', .int .i64 (0), .slice Ey my ky, .int .i64 (0)] 30))
    replace y3 := Lib.hid (y3.out.alloc (by omega) (.cells #[.slice Ay ny cy, .int .i64 (0), .slice Ay' ny' cy', .int .i64 (0), .slice Ey my ky, .int .i64 (0)] 30))
    replace EB := Lib.hid (EB.out.alloc (by omega) (.cells #[.slice Ay ny cy, .int .i64 (0), .slice Ay' ny' cy', .int .i64 (0), .slice Ey my ky, .int .i64 (0)] 30))
    have By := Lib.hid (Box.new w5 30 [.slice Ay ny cy, .int .i64 (0), .slice Ay' ny' cy', .int .i64 (0), .slice Ey my ky, .int .i64 (0)])
    have s6 : w5.heap.size + 1 ≤ (w5.alloc (.cells #[.slice Ay ny cy, .int .i64 (0), .slice Ay' ny' cy', .int .i64 (0), .slice Ey my ky, .int .i64 (0)] 30)).heap.size := by simp
    generalize w5.alloc (.cells #[.slice Ay ny cy, .int .i64 (0), .slice Ay' ny' cy', .int .i64 (0), .slice Ey my ky, .int .i64 (0)] 30) = w6 at *
    refine (equalWriter_same x1.out x2.out x3.out y1.out y2.out y3.out (by omega) (by omega) (by omega) (by omega) (by omega) (by omega)).mono ?_
    rintro e w7 ⟨rfl, hb⟩
    (try simp only [World.size_alloc, World.size_setCell, World.size_drew] at hb)
    have HB := Lib.hid hb
    clear hb
    have s7 := HB.out.size
    (try simp only [World.size_alloc, World.size_setCell, World.size_drew] at s7)
    replace l1 := Lib.hid (l1.out.below HB.out (by omega))
    replace d1 := Lib.hid (d1.out.below HB.out (by omega))
    replace d2 := Lib.hid (d2.out.below HB.out (by omega))
    replace d3 := Lib.hid (d3.out.below HB.out (by omega))
    replace Bd := Lib.hid (Bd.out.below HB.out (by omega))
    replace x1 := Lib.hid (x1.out.below HB.out (by omega))
    replace x2 := Lib.hid (x2.out.below HB.out (by omega))
    replace x3 := Lib.hid (x3.out.below HB.out (by omega))
    replace Bx := Lib.hid (Bx.out.below HB.out (by omega))
    replace y1 := Lib.hid (y1.out.below HB.out (by omega))
    replace y2 := Lib.hid (y2.out.below HB.out (by omega))
    replace y3 := Lib.hid (y3.out.below HB.out (by omega))
    replace By := Lib.hid (By.out.below HB.out (by omega))
    replace EB := Lib.hid (below_step HB.out EB.out (by omega))
    clear HB
    have vxl := Bx.out.lt
    have vx0 := (Bx.out.2 0 _ rfl).1
    have vx1 := (Bx.out.2 1 _ rfl).1
    have vx2 := (Bx.out.2 2 _ rfl).1
    have vx3 := (Bx.out.2 3 _ rfl).1
    have vx4 := (Bx.out.2 4 _ rfl).1
    have vx5 := (Bx.out.2 5 _ rfl).1
    have vyl := By.out.lt
    have vy0 := (By.out.2 0 _ rfl).1
    have vy1 := (By.out.2 1 _ rfl).1
    have vy2 := (By.out.2 2 _ rfl).1
    have vy3 := (By.out.2 3 _ rfl).1
    have vy4 := (By.out.2 4 _ rfl).1
    have vy5 := (By.out.2 5 _ rfl).1
    go_wp2_with fail
    refine (equalWriter_same x1.out x2.out x3.out y1.out y2.out y3.out (by omega) (by omega) (by omega) (by omega) (by omega) (by omega)).mono ?_
    clear vxl vx0 vx1 vx2 vx3 vx4 vx5 vyl vy0 vy1 vy2 vy3 vy4 vy5
    rintro e w8 ⟨rfl, hb⟩
    (try simp only [World.size_alloc, World.size_setCell, World.size_drew] at hb)
    have HB := Lib.hid hb
    clear hb
    have s8 := HB.out.size
    (try simp only [World.size_alloc, World.size_setCell, World.size_drew] at s8)
    replace l1 := Lib.hid (l1.out.below HB.out (by omega))
    replace d1 := Lib.hid (d1.out.below HB.out (by omega))
    replace d2 := Lib.hid (d2.out.below HB.out (by omega))
    replace d3 := Lib.hid (d3.out.below HB.out (by omega))
    replace Bd := Lib.hid (Bd.out.below HB.out (by omega))
    replace x1 := Lib.hid (x1.out.below HB.out (by omega))
    replace x2 := Lib.hid (x2.out.below HB.out (by omega))
    replace x3 := Lib.hid (x3.out.below HB.out (by omega))
    replace Bx := Lib.hid (Bx.out.below HB.out (by omega))
    replace y1 := Lib.hid (y1.out.below HB.out (by omega))
    replace y2 := Lib.hid (y2.out.below HB.out (by omega))
    replace y3 := Lib.hid (y3.out.below HB.out (by omega))
    replace By := Lib.hid (By.out.below HB.out (by omega))
    replace EB := Lib.hid (below_step HB.out EB.out (by omega))
    clear HB
    go_wp2
    go_ret
    exact ⟨rfl, EB.out⟩
  · obtain ⟨K, hK⟩ : ∃ K : Nat, nl / 2 = K := ⟨_, rfl⟩
    have hKN : K ≤ nl := by omega
    have hdv : (nl : Int).tdiv 2 = (K : Int) := by rw [← hK]; rfl
    have hdw : (nl : Int) / 2 = (K : Int) := by omega
    clear hK
    obtain ⟨D1, P1, Q1, R1, N1, st1, D2, P2, Q2, R2, N, st, ho1, ho, h5, hne, hN16, hN60, hgo, hS, hr1, hd1, hr2, hd2, hQ1, hP1⟩ := wb_two hg K (by have := l1.out.len; omega)
    clear hg
    have hs5 : (st == 5) = false := by simpa using h5
    have HO := Lib.hid ho
    have HO1 := Lib.hid ho1
    have GO := Lib.hid hgo
    have SL := Lib.hid hS
    have R1L := Lib.hid hr1
    have D1L := Lib.hid hd1
    have R2L := Lib.hid hr2
    have D2L := Lib.hid hd2
    clear ho ho1 hgo hS hr1 hd1 hr2 hd2
    have vdl := Bd.out.lt
    have vd0 := (Bd.out.2 0 _ rfl).1
    have vd1 := (Bd.out.2 1 _ rfl).1
    have vd2 := (Bd.out.2 2 _ rfl).1
    have vd3 := (Bd.out.2 3 _ rfl).1
    have vd4 := (Bd.out.2 4 _ rfl).1
    have vd5 := (Bd.out.2 5 _ rfl).1
    go_wp2_with fail
    refine (to_rii (WriteBytes_x (HE.below EB.out (Nat.le_refl _)) EB.out.size d1.out d2.out d3.out l1.out (by omega) (by omega) (by omega) (by omega) hcd hcd' hkd hcl (by omega) (by omega) (by omega) (by omega)) HO.out).mono ?_
    clear vdl vd0 vd1 vd2 vd3 vd4 vd5
    rintro e w3 ⟨Ax, nx, cx, Ax', nx', cx', Ex, mx, kx, rfl, ⟨hcx, hcx', hkx⟩, hb, hd, hd', hr⟩
    (try simp only [World.size_alloc, World.size_setCell, World.size_drew] at hb)
    have HB := Lib.hid hb
    clear hb
    have s3 := HB.out.size
    (try simp only [World.size_alloc, World.size_setCell, World.size_drew] at s3)
    replace l1 := Lib.hid (l1.out.below HB.out (by omega))
    replace d1 := Lib.hid (d1.out.below HB.out (by omega))
    replace d2 := Lib.hid (d2.out.below HB.out (by omega))
    replace d3 := Lib.hid (d3.out.below HB.out (by omega))
    replace Bd := Lib.hid (Bd.out.below HB.out (by omega))
    replace EB := Lib.hid (below_step HB.out EB.out (by omega))
    clear HB
    have x1 := Lib.hid hd
    have x2 := Lib.hid hd'
    have x3 := Lib.hid hr
    clear hd hd' hr
    have vdl := Bd.out.lt
    have vd0 := (Bd.out.2 0 _ rfl).1
    have vd1 := (Bd.out.2 1 _ rfl).1
    have vd2 := (Bd.out.2 2 _ rfl).1
    have vd3 := (Bd.out.2 3 _ rfl).1
    have vd4 := (Bd.out.2 4 _ rfl).1
    have vd5 := (Bd.out.2 5 _ rfl).1
    go_wp2_with fail
    clear vdl vd0 vd1 vd2 vd3 vd4 vd5
    replace l1 := Lib.hid (l1.out.alloc (by omega) (.cells #[.slice Ax nx cx, .int .i64 (P2), .slice Ax' nx' cx', .int .i64 (Q2), .slice Ex mx kx, .int .i64 (yd)] 30))
    replace d1 := Lib.hid (d1.out.alloc (by omega) (.cells #[.slice Ax nx cx, .int .i64 (P2), .slice Ax' nx' cx', .int .i64 (Q2), .slice Ex mx kx, .int .i64 (yd)] 30))
    replace d2 := Lib.hid (d2.out.alloc (by omega) (.cells #[.slice Ax nx cx, .int .i64 (P2), .slice Ax' nx' cx', .int .i64 (Q2), .slice Ex mx kx, .int .i64 (yd)] 30))
    replace d3 := Lib.hid (d3.out.alloc (by omega) (.cells #[.slice Ax nx cx, .int .i64 (P2), .slice Ax' nx' cx', .int .i64 (Q2), .slice Ex mx kx, .int .i64 (yd)] 30))
    replace Bd := Lib.hid (Bd.out.alloc (.cells #[.slice Ax nx cx, .int .i64 (P2), .slice Ax' nx' cx', .int .i64 (Q2), .slice Ex mx kx, .int .i64 (yd)] 30))
    replace x1 := Lib.hid (x1.out.alloc (by omega) (.cells #[.slice Ax nx cx, .int .i64 (P2), .slice Ax' nx' cx', .int .i64 (Q2), .slice Ex mx kx, .int .i64 (yd)] 30))
    replace x2 := Lib.hid (x2.out.alloc (by omega) (.cells #[.slice Ax nx cx, .int .i64 (P2), .slice Ax' nx' cx', .int .i64 (Q2), .slice Ex mx kx, .int .i64 (yd)] 30))
    replace x3 := Lib.hid (x3.out.alloc (by omega) (.cells #[.slice Ax nx cx, .int .i64 (P2), .slice Ax' nx' cx', .int .i64 (Q2), .slice Ex mx kx, .int .i64 (yd)] 30))
    replace EB := Lib.hid (EB.out.alloc (by omega) (.cells #[.slice Ax nx cx, .int .i64 (P2), .slice Ax' nx' cx', .int .i64 (Q2), .slice Ex mx kx, .int .i64 (yd)] 30))
    have Bx := Lib.hid (Box.new w3 30 [.slice Ax nx cx, .int .i64 (P2), .slice Ax' nx' cx', .int .i64 (Q2), .slice Ex mx kx, .int .i64 (yd)])
    have s4 : w3.heap.size + 1 ≤ (w3.alloc (.cells #[.slice Ax nx cx, .int .i64 (P2), .slice Ax' nx' cx', .int .i64 (Q2), .slice Ex mx kx, .int .i64 (yd)] 30)).heap.size := by simp
    generalize w3.alloc (.cells #[.slice Ax nx cx, .int .i64 (P2), .slice Ax' nx' cx', .int .i64 (Q2), .slice Ex mx kx, .int .i64 (yd)] 30) = w4 at *
    refine (to_rii (SWriteBytes_x d1.out d2.out d3.out l1.out (by omega) (by omega) (by omega) (by omega) hcd hcd' hkd hcl (by omega) (by omega) (by omega) (by omega)) HO.out).mono ?_
    rintro e w5 ⟨Ay, ny, cy, Ay', ny', cy', Ey, my, ky, rfl, ⟨hcy, hcy', hky⟩, hb, hd, hd', hr⟩
    (try simp only [World.size_alloc, World.size_setCell, World.size_drew] at hb)
    have HB := Lib.hid hb
    clear hb
    have s5 := HB.out.size
    (try simp only [World.size_alloc, World.size_setCell, World.size_drew] at s5)
    replace l1 := Lib.hid (l1.out.below HB.out (by omega))
    replace d1 := Lib.hid (d1.out.below HB.out (by omega))
    replace d2 := Lib.hid (d2.out.below HB.out (by omega))
    replace d3 := Lib.hid (d3.out.below HB.out (by omega))
    replace Bd := Lib.hid (Bd.out.below HB.out (by omega))
    replace x1 := Lib.hid (x1.out.below HB.out (by omega))
    replace x2 := Lib.hid (x2.out.below HB.out (by omega))
    replace x3 := Lib.hid (x3.out.below HB.out (by omega))
    replace Bx := Lib.hid (Bx.out.below HB.out (by omega))
    replace EB := Lib.hid (below_step HB.out EB.out (by omega))
    clear HB
    have y1 := Lib.hid hd
    have y2 := Lib.hid hd'
    have y3 := Lib.hid hr
    clear hd hd' hr
    have vxl := Bx.out.lt
    have vx0 := (Bx.out.2 0 _ rfl).1
    have vx1 := (Bx.out.2 1 _ rfl).1
    have vx2 := (Bx.out.2 2 _ rfl).1
    have vx3 := (Bx.out.2 3 _ rfl).1
    have vx4 := (Bx.out.2 4 _ rfl).1
    have vx5 := (Bx.out.2 5 _ rfl).1
    go_wp2_with fail
    clear vxl vx0 vx1 vx2 vx3 vx4 vx5
    replace l1 := Lib.hid (l1.out.alloc (by omega) (.cells #[.slice Ay ny cy, .int .i64 (P2), .slice Ay' ny' cy', .int .i64 (Q2), .slice Ey my ky, .int .i64 (yd)] 30))
    replace d1 := Lib.hid (d1.out.alloc (by omega) (.cells #[.slice Ay ny cy, .int .i64 (P2), .slice Ay' ny' cy', .int .i64 (Q2), .slice Ey my ky, .int .i64 (yd)] 30))
    replace d2 := Lib.hid (d2.out.alloc (by omega) (.cells #[.slice Ay ny cy, .int .i64 (P2), .slice Ay' ny' cy', .int .i64 (Q2), .slice Ey my ky, .int .i64 (yd)] 30))
    replace d3 := Lib.hid (d3.out.alloc (by omega) (.cells #[.slice Ay ny cy, .int .i64 (P2), .slice Ay' ny' cy', .int .i64 (Q2), .slice Ey my ky, .int .i64 (yd)] 30))
    replace Bd := Lib.hid (Bd.out.alloc (.cells #[.slice Ay ny cy, .int .i64 (P2), .slice Ay' ny' cy', .int .i64 (Q2), .slice Ey my ky, .int .i64 (yd)] 30))
    replace x1 := Lib.hid (x1.out.alloc (by omega) (.cells #[.slice Ay ny cy, .int .i64 (P2), .slice Ay' ny' cy', .int .i64 (Q2), .slice Ey my ky, .int .i64 (yd)] 30))
    replace x2 := Lib.hid (x2.out.alloc (by omega) (.cells #[.slice Ay ny cy, .int .i64 (P2), .slice Ay' ny' cy', .int .i64 (Q2), .slice Ey my ky, .int .i64 (yd)] 30))
    replace x3 := Lib.hid (x3.out.alloc (by omega) (.cells #[.slice Ay ny cy, .int .i64 (P2), .slice Ay' ny' cy', .int .i64 (Q2), .slice Ey my ky, .int .i64 (yd)] 30))
    replace Bx := Lib.hid (Bx.out.alloc (.cells #[.slice Ay ny cy, .int .i64 (P2), .slice Ay' ny' cy', .int .i64 (Q2), .slice Ey my ky, .int .i64 (yd)] 30))
    replace y1 := Lib.hid (y1.out.alloc (by omega) (.cells #[.slice Ay ny cy, .int .i64 (P2), .slice Ay' ny' cy', .int .i64 (Q2), .slice Ey my ky, .int .i64 (yd)] 30))
    replace y2 := Lib.hid (y2.out.alloc (by omega) (.cells #[.slice Ay ny cy, .int .i64 (P2), .slice Ay' ny' cy', .int .i64 (Q2), .slice Ey my ky, .int .i64 (yd)] 30))
    replace y3 := Lib.hid (y3.out.alloc (by omega) (.cells #[.slice Ay ny cy, .int .i64 (P2), .slice Ay' ny' cy', .int .i64 (Q2), .slice Ey my ky, .int .i64 (yd)] 30))
    replace EB := Lib.hid (EB.out.alloc (by omega) (.cells #[.slice Ay ny cy, .int .i64 (P2), .slice Ay' ny' cy', .int .i64 (Q2), .slice Ey my ky, .int .i64 (yd)] 30))
    have By := Lib.hid (Box.new w5 30 [.slice Ay ny cy, .int .i64 (P2), .slice Ay' ny' cy', .int .i64 (Q2), .slice Ey my ky, .int .i64 (yd)])
    have s6 : w5.heap.size + 1 ≤ (w5.alloc (.cells #[.slice Ay ny cy, .int .i64 (P2), .slice Ay' ny' cy', .int .i64 (Q2), .slice Ey my ky, .int .i64 (yd)] 30)).heap.size := by simp
    generalize w5.alloc (.cells #[.slice Ay ny cy, .int .i64 (P2), .slice Ay' ny' cy', .int .i64 (Q2), .slice Ey my ky, .int .i64 (yd)] 30) = w6 at *
    refine (equalWriter_same x1.out x2.out x3.out y1.out y2.out y3.out (by omega) (by omega) (by omega) (by omega) (by omega) (by omega)).mono ?_
    rintro e w7 ⟨rfl, hb⟩
    (try simp only [World.size_alloc, World.size_setCell, World.size_drew] at hb)
    have HB := Lib.hid hb
    clear hb
    have s7 := HB.out.size
    (try simp only [World.size_alloc, World.size_setCell, World.size_drew] at s7)
    replace l1 := Lib.hid (l1.out.below HB.out (by omega))
    replace d1 := Lib.hid (d1.out.below HB.out (by omega))
    replace d2 := Lib.hid (d2.out.below HB.out (by omega))
    replace d3 := Lib.hid (d3.out.below HB.out (by omega))
    replace Bd := Lib.hid (Bd.out.below HB.out (by omega))
    replace x1 := Lib.hid (x1.out.below HB.out (by omega))
    replace x2 := Lib.hid (x2.out.below HB.out (by omega))
    replace x3 := Lib.hid (x3.out.below HB.out (by omega))
    replace Bx := Lib.hid (Bx.out.below HB.out (by omega))
    replace y1 := Lib.hid (y1.out.below HB.out (by omega))
    replace y2 := Lib.hid (y2.out.below HB.out (by omega))
    replace y3 := Lib.hid (y3.out.below HB.out (by omega))
    replace By := Lib.hid (By.out.below HB.out (by omega))
    replace EB := Lib.hid (below_step HB.out EB.out (by omega))
    clear HB
    clear y1 y2 y3 By
    have hKi : (K : Int) ≤ (cl : Int) := by omega
    have hK0 : (0 : Int) ≤ (K : Int) := by omega
    have CALL1 : Hid (∀ (X : World), Below w7.heap.size w7 X → Calls Tryd.prog 16 #[.agg #[.slice Ad nd cd, .int .i64 (pd), .slice Ad' nd' cd', .int .i64 (qd), .slice Ed md kd, .int .i64 (yd)], .slice Al K cl] X (PostRII D1 P1 Sd Q1 R1 yd (N1 : Int) st1 X)) := by
      intro X hX
      have sX := hX.size
      exact to_rii (WriteBytes_x ((HE.below EB.out (Nat.le_refl _)).below hX EB.out.size) (by have := EB.out.size; omega) (d1.out.below hX (by omega)) (d2.out.below hX (by omega)) (d3.out.below hX (by omega)) ((l1.out.take hKN).below hX (by omega)) (by omega) (by omega) (by omega) (by omega) hcd hcd' hkd (by omega) (by omega) (by omega) (by omega) (by omega)) HO1.out
    have vdl := Bd.out.lt
    have vd0 := (Bd.out.2 0 _ rfl).1
    have vd1 := (Bd.out.2 1 _ rfl).1
    have vd2 := (Bd.out.2 2 _ rfl).1
    have vd3 := (Bd.out.2 3 _ rfl).1
    have vd4 := (Bd.out.2 4 _ rfl).1
    have vd5 := (Bd.out.2 5 _ rfl).1
    have vxl := Bx.out.lt
    have vx0 := (Bx.out.2 0 _ rfl).1
    have vx1 := (Bx.out.2 1 _ rfl).1
    have vx2 := (Bx.out.2 2 _ rfl).1
    have vx3 := (Bx.out.2 3 _ rfl).1
    have vx4 := (Bx.out.2 4 _ rfl).1
    have vx5 := (Bx.out.2 5 _ rfl).1
    go_wp2_with fail
    go_region_law (first | (go_simp; go_at_call 16; (with_reducible refine (CALL1.out _ (by go_grown)).mono ?_); rintro e wx ⟨Aa, na, ca, Aa', na', ca', Ea, ma, ka, rfl, ⟨hca, hca', hka⟩, hb, hd, hd', hr⟩; have sx0 := hb.size; (try simp only [World.size_alloc, World.size_setCell, World.size_drew] at sx0); have HBX : Hid (Below w7.heap.size w7 wx) := below_step hb (by go_grown) (by first | omega | (simp; omega) | (simp; done)); (first | (have ZB : Hid (Box wx (w7.heap.size) [.slice none 0 0, .int .i64 0, .slice none 0 0, .int .i64 0, .slice none 0 0, .int .i64 0]) := (by show Box _ _ _; first | (have hx := Box.below (Box.new w7 30 [.slice none 0 0, .int .i64 0, .slice none 0 0, .int .i64 0, .slice none 0 0, .int .i64 0]) hb (by first | omega | (simp; omega) | (simp; done)); first | exact hx | simpa using hx) | (have hx := Box.below (Box.drew (Box.new w7 30 [.slice none 0 0, .int .i64 0, .slice none 0 0, .int .i64 0, .slice none 0 0, .int .i64 0])) hb (by first | omega | (simp; omega) | (simp; done)); first | exact hx | simpa using hx)); obtain ⟨bx, hbx⟩ : ∃ bx : Nat, bx = w7.heap.size := ⟨_, rfl⟩; have zr0 := (ZB.out.2 0 _ rfl).1; have zr1 := (ZB.out.2 1 _ rfl).1; have zr2 := (ZB.out.2 2 _ rfl).1; have zr3 := (ZB.out.2 3 _ rfl).1; have zr4 := (ZB.out.2 4 _ rfl).1; have zr5 := (ZB.out.2 5 _ rfl).1; have zf0 := (ZB.out.2 0 _ rfl).2; have zf1 := (ZB.out.2 1 _ rfl).2; have zf2 := (ZB.out.2 2 _ rfl).2; have zf3 := (ZB.out.2 3 _ rfl).2; have zf4 := (ZB.out.2 4 _ rfl).2; have zf5 := (ZB.out.2 5 _ rfl).2) | (obtain ⟨bx, hbx⟩ : ∃ bx : Nat, bx = wx.heap.size := ⟨_, rfl⟩)); (try simp only [World.size_alloc, World.size_setCell, World.size_drew] at hd hd' hr); have D9 := Lib.hid hd; have E9 := Lib.hid hd'; have R9 := Lib.hid hr; clear hd hd' hr hb))
    all_goals
      rw [← hbx]
      refine wp_renameK (fun w9 => Hid (Below w7.heap.size w7 w9) ∧ Hid (Ints w9 w7.heap.size wx.heap.size Aa na D1) ∧ Hid (Ints w9 w7.heap.size wx.heap.size Aa' na' Sd) ∧ Hid (Ints w9 w7.heap.size wx.heap.size Ea ma R1) ∧ Hid (Box w9 bx [.slice Aa na ca, .int .i64 (P1), .slice Aa' na' ca', .int .i64 (Q1), .slice Ea ma ka, .int .i64 (yd)]) ∧ w7.heap.size ≤ bx ∧ wx.heap.size ≤ w9.heap.size) ⟨?_, ?_, ?_, ?_, ?_, by omega, ?_⟩ ?_
      · show Below _ _ _
        repeat (first | (with_reducible refine below_set ?_ (by omega) _) | (with_reducible refine Below.alloc ?_ (by omega) _) | (with_reducible refine Below.drew ?_))
        exact HBX.out
      · show Ints _ _ _ _ _ _
        first
          | (refine Ints.more (lo := w7.heap.size) (hi := wx.heap.size) ?_ (by omega) (Nat.le_refl _); with_reducible exact Ints.alloc D9.out (Nat.le_refl _) _)
          | (refine Ints.more (lo := w7.heap.size + 1) (hi := wx.heap.size) ?_ (by omega) (Nat.le_refl _); (repeat (with_reducible refine Ints.set_ ?_ (by omega) _)); with_reducible exact D9.out)
      · show Ints _ _ _ _ _ _
        first
          | (refine Ints.more (lo := w7.heap.size) (hi := wx.heap.size) ?_ (by omega) (Nat.le_refl _); with_reducible exact Ints.alloc E9.out (Nat.le_refl _) _)
          | (refine Ints.more (lo := w7.heap.size + 1) (hi := wx.heap.size) ?_ (by omega) (Nat.le_refl _); (repeat (with_reducible refine Ints.set_ ?_ (by omega) _)); with_reducible exact E9.out)
      · show Ints _ _ _ _ _ _
        first
          | (refine Ints.more (lo := w7.heap.size) (hi := wx.heap.size) ?_ (by omega) (Nat.le_refl _); with_reducible exact Ints.alloc R9.out (Nat.le_refl _) _)
          | (refine Ints.more (lo := w7.heap.size + 1) (hi := wx.heap.size) ?_ (by omega) (Nat.le_refl _); (repeat (with_reducible refine Ints.set_ ?_ (by omega) _)); with_reducible exact R9.out)
      · show Box _ _ _
        subst hbx
        first
          | with_reducible exact Box.new wx 30 [.slice Aa na ca, .int .i64 (P1), .slice Aa' na' ca', .int .i64 (Q1), .slice Ea ma ka, .int .i64 (yd)]
          | (have hx := ((((((ZB.out.put (i := 0) (by simp) (.slice Aa na ca)).put (i := 1) (by simp) (.int .i64 (P1))).put (i := 2) (by simp) (.slice Aa' na' ca')).put (i := 3) (by simp) (.int .i64 (Q1))).put (i := 4) (by simp) (.slice Ea ma ka)).put (i := 5) (by simp) (.int .i64 (yd))); simpa using hx)
      · first | omega | (simp only [World.size_setCell, World.size_alloc, World.size_drew]; omega)
      clear D9 E9 R9 HBX hbx
      (try clear ZB zr0 zr1 zr2 zr3 zr4 zr5 zf0 zf1 zf2 zf3 zf4 zf5)
      skip
      clear vdl vd0 vd1 vd2 vd3 vd4 vd5 vxl vx0 vx1 vx2 vx3 vx4 vx5
      rintro w8 ⟨HBF, a1, a2, a3, Ba, hbx0, hwx9⟩
      have s8 := HBF.out.size
      have hbxl := Ba.out.lt
      replace l1 := Lib.hid (l1.out.below HBF.out (by omega))
      replace d1 := Lib.hid (d1.out.below HBF.out (by omega))
      replace d2 := Lib.hid (d2.out.below HBF.out (by omega))
      replace d3 := Lib.hid (d3.out.below HBF.out (by omega))
      replace Bd := Lib.hid (Bd.out.below HBF.out (by omega))
      replace x1 := Lib.hid (x1.out.below HBF.out (by omega))
      replace x2 := Lib.hid (x2.out.below HBF.out (by omega))
      replace x3 := Lib.hid (x3.out.below HBF.out (by omega))
      replace Bx := Lib.hid (Bx.out.below HBF.out (by omega))
      replace EB := Lib.hid (below_step HBF.out EB.out (by omega))
      clear HBF
      have hna : na ≤ 60 := by have h1 := a1.out.len; have h2 := D1L.out; omega
      have hna2 : na' ≤ 12 := by have h1 := a2.out.len; have h2 := SL.out; omega
      have hma : ma ≤ 16 := by have h1 := a3.out.len; have h2 := R1L.out; omega
      by_cases h1 : st1 = 0
      · subst h1
        by_cases hQ9 : Q1 ≤ 900
        · obtain ⟨hNN, ho2⟩ := GO.out rfl hQ9
          have HO2 := Lib.hid ho2
          have hq9 : ¬ 900 < Q1 := by omega
          have hqd9 : decide (900 < Q1) = false := by simp; omega
          clear ho2 GO
          have hwN : IntKind.i64.wrap ((N1 : Int) + ((N - N1 : Nat) : Int)) = (N : Int) := by rw [IntWalk.i64_in _ (by omega)]; omega
          by_cases hcK : cl = K
          · have hnK : nl ≤ K := by omega
            have l0 := Lib.hid (l1.out.droppedW hnK Al)
            rw [show nl - K = 0 by omega] at l0
            have CALL2 : Hid (∀ (X : World), Below w8.heap.size w8 X → Calls Tryd.prog 16 #[.agg #[.slice Aa na ca, .int .i64 (P1), .slice Aa' na' ca', .int .i64 (Q1), .slice Ea ma ka, .int .i64 (yd)], .slice Al 0 0] X (PostRII D2 P2 Sd Q2 R2 yd ((N - N1 : Nat) : Int) st X)) := by
              intro X hX
              have sX := hX.size
              exact to_rii (WriteBytes_x ((HE.below EB.out (Nat.le_refl _)).below hX EB.out.size) (by have := EB.out.size; omega) (a1.out.below hX (by omega)) (a2.out.below hX (by omega)) (a3.out.below hX (by omega)) (l0.out.below hX (by omega)) (by omega) (by omega) (by omega) (by omega) hca hca' hka (by omega) (by omega) (by omega) (by omega) (by omega)) HO2.out
            have val := Ba.out.lt
            have va0 := (Ba.out.2 0 _ rfl).1
            have va1 := (Ba.out.2 1 _ rfl).1
            have va2 := (Ba.out.2 2 _ rfl).1
            have va3 := (Ba.out.2 3 _ rfl).1
            have va4 := (Ba.out.2 4 _ rfl).1
            have va5 := (Ba.out.2 5 _ rfl).1
            have vdl := Bd.out.lt
            have vd0 := (Bd.out.2 0 _ rfl).1
            have vd1 := (Bd.out.2 1 _ rfl).1
            have vd2 := (Bd.out.2 2 _ rfl).1
            have vd3 := (Bd.out.2 3 _ rfl).1
            have vd4 := (Bd.out.2 4 _ rfl).1
            have vd5 := (Bd.out.2 5 _ rfl).1
            have vxl := Bx.out.lt
            have vx0 := (Bx.out.2 0 _ rfl).1
            have vx1 := (Bx.out.2 1 _ rfl).1
            have vx2 := (Bx.out.2 2 _ rfl).1
            have vx3 := (Bx.out.2 3 _ rfl).1
            have vx4 := (Bx.out.2 4 _ rfl).1
            have vx5 := (Bx.out.2 5 _ rfl).1
            go_wp2_with fail
            go_region_law (first | (go_simp; go_at_call 16; (with_reducible refine (CALL2.out _ (by go_grown)).mono ?_); rintro e wx ⟨Ab, nb, cb, Ab', nb', cb', Eb, mb, kb, rfl, ⟨hcb, hcb', hkb⟩, hb, hd, hd', hr⟩; have sx0 := hb.size; (try simp only [World.size_alloc, World.size_setCell, World.size_drew] at sx0); have HBX : Hid (Below w8.heap.size w8 wx) := below_step hb (by go_grown) (by first | omega | (simp; omega) | (simp; done)); (first | (have ZB : Hid (Box wx (w8.heap.size) [.slice none 0 0, .int .i64 0, .slice none 0 0, .int .i64 0, .slice none 0 0, .int .i64 0]) := (by show Box _ _ _; first | (have hx := Box.below (Box.new w8 30 [.slice none 0 0, .int .i64 0, .slice none 0 0, .int .i64 0, .slice none 0 0, .int .i64 0]) hb (by first | omega | (simp; omega) | (simp; done)); first | exact hx | simpa using hx) | (have hx := Box.below (Box.drew (Box.new w8 30 [.slice none 0 0, .int .i64 0, .slice none 0 0, .int .i64 0, .slice none 0 0, .int .i64 0])) hb (by first | omega | (simp; omega) | (simp; done)); first | exact hx | simpa using hx)); obtain ⟨bx, hbx⟩ : ∃ bx : Nat, bx = w8.heap.size := ⟨_, rfl⟩; have zr0 := (ZB.out.2 0 _ rfl).1; have zr1 := (ZB.out.2 1 _ rfl).1; have zr2 := (ZB.out.2 2 _ rfl).1; have zr3 := (ZB.out.2 3 _ rfl).1; have zr4 := (ZB.out.2 4 _ rfl).1; have zr5 := (ZB.out.2 5 _ rfl).1; have zf0 := (ZB.out.2 0 _ rfl).2; have zf1 := (ZB.out.2 1 _ rfl).2; have zf2 := (ZB.out.2 2 _ rfl).2; have zf3 := (ZB.out.2 3 _ rfl).2; have zf4 := (ZB.out.2 4 _ rfl).2; have zf5 := (ZB.out.2 5 _ rfl).2) | (obtain ⟨bx, hbx⟩ : ∃ bx : Nat, bx = wx.heap.size := ⟨_, rfl⟩)); (try simp only [World.size_alloc, World.size_setCell, World.size_drew] at hd hd' hr); have D9 := Lib.hid hd; have E9 := Lib.hid hd'; have R9 := Lib.hid hr; clear hd hd' hr hb))
            all_goals
              rw [← hbx]
              refine wp_renameK (fun w9 => Hid (Below w8.heap.size w8 w9) ∧ Hid (Ints w9 w8.heap.size wx.heap.size Ab nb D2) ∧ Hid (Ints w9 w8.heap.size wx.heap.size Ab' nb' Sd) ∧ Hid (Ints w9 w8.heap.size wx.heap.size Eb mb R2) ∧ Hid (Box w9 bx [.slice Ab nb cb, .int .i64 (P2), .slice Ab' nb' cb', .int .i64 (Q2), .slice Eb mb kb, .int .i64 (yd)]) ∧ w8.heap.size ≤ bx ∧ wx.heap.size ≤ w9.heap.size) ⟨?_, ?_, ?_, ?_, ?_, by omega, ?_⟩ ?_
              · show Below _ _ _
                repeat (first | (with_reducible refine below_set ?_ (by omega) _) | (with_reducible refine Below.alloc ?_ (by omega) _) | (with_reducible refine Below.drew ?_))
                exact HBX.out
              · show Ints _ _ _ _ _ _
                first
                  | (refine Ints.more (lo := w8.heap.size) (hi := wx.heap.size) ?_ (by omega) (Nat.le_refl _); with_reducible exact Ints.alloc D9.out (Nat.le_refl _) _)
                  | (refine Ints.more (lo := w8.heap.size + 1) (hi := wx.heap.size) ?_ (by omega) (Nat.le_refl _); (repeat (with_reducible refine Ints.set_ ?_ (by omega) _)); with_reducible exact D9.out)
              · show Ints _ _ _ _ _ _
                first
                  | (refine Ints.more (lo := w8.heap.size) (hi := wx.heap.size) ?_ (by omega) (Nat.le_refl _); with_reducible exact Ints.alloc E9.out (Nat.le_refl _) _)
                  | (refine Ints.more (lo := w8.heap.size + 1) (hi := wx.heap.size) ?_ (by omega) (Nat.le_refl _); (repeat (with_reducible refine Ints.set_ ?_ (by omega) _)); with_reducible exact E9.out)
              · show Ints _ _ _ _ _ _
                first
                  | (refine Ints.more (lo := w8.heap.size) (hi := wx.heap.size) ?_ (by omega) (Nat.le_refl _); with_reducible exact Ints.alloc R9.out (Nat.le_refl _) _)
                  | (refine Ints.more (lo := w8.heap.size + 1) (hi := wx.heap.size) ?_ (by omega) (Nat.le_refl _); (repeat (with_reducible refine Ints.set_ ?_ (by omega) _)); with_reducible exact R9.out)
              · show Box _ _ _
                subst hbx
                first
                  | with_reducible exact Box.new wx 30 [.slice Ab nb cb, .int .i64 (P2), .slice Ab' nb' cb', .int .i64 (Q2), .slice Eb mb kb, .int .i64 (yd)]
                  | (have hx := ((((((ZB.out.put (i := 0) (by simp) (.slice Ab nb cb)).put (i := 1) (by simp) (.int .i64 (P2))).put (i := 2) (by simp) (.slice Ab' nb' cb')).put (i := 3) (by simp) (.int .i64 (Q2))).put (i := 4) (by simp) (.slice Eb mb kb)).put (i := 5) (by simp) (.int .i64 (yd))); simpa using hx)
              · first | omega | (simp only [World.size_setCell, World.size_alloc, World.size_drew]; omega)
              clear D9 E9 R9 HBX hbx
              (try clear ZB zr0 zr1 zr2 zr3 zr4 zr5 zf0 zf1 zf2 zf3 zf4 zf5)
              skip
              clear val va0 va1 va2 va3 va4 va5 vdl vd0 vd1 vd2 vd3 vd4 vd5 vxl vx0 vx1 vx2 vx3 vx4 vx5
              rintro w9 ⟨HBF, b1, b2, b3, Bb, hbx0, hwx9⟩
              have s9 := HBF.out.size
              have hbxl := Bb.out.lt
              replace l1 := Lib.hid (l1.out.below HBF.out (by omega))
              replace d1 := Lib.hid (d1.out.below HBF.out (by omega))
              replace d2 := Lib.hid (d2.out.below HBF.out (by omega))
              replace d3 := Lib.hid (d3.out.below HBF.out (by omega))
              replace Bd := Lib.hid (Bd.out.below HBF.out (by omega))
              replace x1 := Lib.hid (x1.out.below HBF.out (by omega))
              replace x2 := Lib.hid (x2.out.below HBF.out (by omega))
              replace x3 := Lib.hid (x3.out.below HBF.out (by omega))
              replace Bx := Lib.hid (Bx.out.below HBF.out (by omega))
              replace a1 := Lib.hid (a1.out.below HBF.out (by omega))
              replace a2 := Lib.hid (a2.out.below HBF.out (by omega))
              replace a3 := Lib.hid (a3.out.below HBF.out (by omega))
              replace Ba := Lib.hid (Ba.out.below HBF.out (by omega))
              replace EB := Lib.hid (below_step HBF.out EB.out (by omega))
              clear HBF
              have vbl := Bb.out.lt
              have vb0 := (Bb.out.2 0 _ rfl).1
              have vb1 := (Bb.out.2 1 _ rfl).1
              have vb2 := (Bb.out.2 2 _ rfl).1
              have vb3 := (Bb.out.2 3 _ rfl).1
              have vb4 := (Bb.out.2 4 _ rfl).1
              have vb5 := (Bb.out.2 5 _ rfl).1
              have vxl := Bx.out.lt
              have vx0 := (Bx.out.2 0 _ rfl).1
              have vx1 := (Bx.out.2 1 _ rfl).1
              have vx2 := (Bx.out.2 2 _ rfl).1
              have vx3 := (Bx.out.2 3 _ rfl).1
              have vx4 := (Bx.out.2 4 _ rfl).1
              have vx5 := (Bx.out.2 5 _ rfl).1
              go_wp2_with fail
              refine (equalWriter_same b1.out b2.out b3.out x1.out x2.out x3.out (by omega) (by omega) (by omega) (by omega) (by omega) (by omega)).mono ?_
              clear vbl vb0 vb1 vb2 vb3 vb4 vb5 vxl vx0 vx1 vx2 vx3 vx4 vx5
              rintro e w10 ⟨rfl, hb⟩
              (try simp only [World.size_alloc, World.size_setCell, World.size_drew] at hb)
              have HB := Lib.hid hb
              clear hb
              have s10 := HB.out.size
              (try simp only [World.size_alloc, World.size_setCell, World.size_drew] at s10)
              replace l1 := Lib.hid (l1.out.below HB.out (by omega))
              replace d1 := Lib.hid (d1.out.below HB.out (by omega))
              replace d2 := Lib.hid (d2.out.below HB.out (by omega))
              replace d3 := Lib.hid (d3.out.below HB.out (by omega))
              replace Bd := Lib.hid (Bd.out.below HB.out (by omega))
              replace x1 := Lib.hid (x1.out.below HB.out (by omega))
              replace x2 := Lib.hid (x2.out.below HB.out (by omega))
              replace x3 := Lib.hid (x3.out.below HB.out (by omega))
              replace Bx := Lib.hid (Bx.out.below HB.out (by omega))
              replace a1 := Lib.hid (a1.out.below HB.out (by omega))
              replace a2 := Lib.hid (a2.out.below HB.out (by omega))
              replace a3 := Lib.hid (a3.out.below HB.out (by omega))
              replace Ba := Lib.hid (Ba.out.below HB.out (by omega))
              replace b1 := Lib.hid (b1.out.below HB.out (by omega))
              replace b2 := Lib.hid (b2.out.below HB.out (by omega))
              replace b3 := Lib.hid (b3.out.below HB.out (by omega))
              replace Bb := Lib.hid (Bb.out.below HB.out (by omega))
              replace EB := Lib.hid (below_step HB.out EB.out (by omega))
              clear HB
              have vbl := Bb.out.lt
              have vb0 := (Bb.out.2 0 _ rfl).1
              have vb1 := (Bb.out.2 1 _ rfl).1
              have vb2 := (Bb.out.2 2 _ rfl).1
              have vb3 := (Bb.out.2 3 _ rfl).1
              have vb4 := (Bb.out.2 4 _ rfl).1
              have vb5 := (Bb.out.2 5 _ rfl).1
              have vxl := Bx.out.lt
              have vx0 := (Bx.out.2 0 _ rfl).1
              have vx1 := (Bx.out.2 1 _ rfl).1
              have vx2 := (Bx.out.2 2 _ rfl).1
              have vx3 := (Bx.out.2 3 _ rfl).1
              have vx4 := (Bx.out.2 4 _ rfl).1
              have vx5 := (Bx.out.2 5 _ rfl).1
              go_wp2
              go_ret
              exact ⟨rfl, EB.out⟩
          · have CALL2 : Hid (∀ (X : World), Below w8.heap.size w8 X → Calls Tryd.prog 16 #[.agg #[.slice Aa na ca, .int .i64 (P1), .slice Aa' na' ca', .int .i64 (Q1), .slice Ea ma ka, .int .i64 (yd)], .slice (Al.map fun x => x.add K) (nl - K) (cl - K)] X (PostRII D2 P2 Sd Q2 R2 yd ((N - N1 : Nat) : Int) st X)) := by
              intro X hX
              have sX := hX.size
              exact to_rii (WriteBytes_x ((HE.below EB.out (Nat.le_refl _)).below hX EB.out.size) (by have := EB.out.size; omega) (a1.out.below hX (by omega)) (a2.out.below hX (by omega)) (a3.out.below hX (by omega)) ((l1.out.drop hKN).below hX (by omega)) (by omega) (by omega) (by omega) (by omega) hca hca' hka (by omega) (by omega) (by omega) (by omega) (by omega)) HO2.out
            have val := Ba.out.lt
            have va0 := (Ba.out.2 0 _ rfl).1
            have va1 := (Ba.out.2 1 _ rfl).1
            have va2 := (Ba.out.2 2 _ rfl).1
            have va3 := (Ba.out.2 3 _ rfl).1
            have va4 := (Ba.out.2 4 _ rfl).1
            have va5 := (Ba.out.2 5 _ rfl).1
            have vdl := Bd.out.lt
            have vd0 := (Bd.out.2 0 _ rfl).1
            have vd1 := (Bd.out.2 1 _ rfl).1
            have vd2 := (Bd.out.2 2 _ rfl).1
            have vd3 := (Bd.out.2 3 _ rfl).1
            have vd4 := (Bd.out.2 4 _ rfl).1
            have vd5 := (Bd.out.2 5 _ rfl).1
            have vxl := Bx.out.lt
            have vx0 := (Bx.out.2 0 _ rfl).1
            have vx1 := (Bx.out.2 1 _ rfl).1
            have vx2 := (Bx.out.2 2 _ rfl).1
            have vx3 := (Bx.out.2 3 _ rfl).1
            have vx4 := (Bx.out.2 4 _ rfl).1
            have vx5 := (Bx.out.2 5 _ rfl).1
            go_wp2_with fail
            go_region_law (first | (go_simp; go_at_call 16; (with_reducible refine (CALL2.out _ (by go_grown)).mono ?_); rintro e wx ⟨Ab, nb, cb, Ab', nb', cb', Eb, mb, kb, rfl, ⟨hcb, hcb', hkb⟩, hb, hd, hd', hr⟩; have sx0 := hb.size; (try simp only [World.size_alloc, World.size_setCell, World.size_drew] at sx0); have HBX : Hid (Below w8.heap.size w8 wx) := below_step hb (by go_grown) (by first | omega | (simp; omega) | (simp; done)); (first | (have ZB : Hid (Box wx (w8.heap.size) [.slice none 0 0, .int .i64 0, .slice none 0 0, .int .i64 0, .slice none 0 0, .int .i64 0]) := (by show Box _ _ _; first | (have hx := Box.below (Box.new w8 30 [.slice none 0 0, .int .i64 0, .slice none 0 0, .int .i64 0, .slice none 0 0, .int .i64 0]) hb (by first | omega | (simp; omega) | (simp; done)); first | exact hx | simpa using hx) | (have hx := Box.below (Box.drew (Box.new w8 30 [.slice none 0 0, .int .i64 0, .slice none 0 0, .int .i64 0, .slice none 0 0, .int .i64 0])) hb (by first | omega | (simp; omega) | (simp; done)); first | exact hx | simpa using hx)); obtain ⟨bx, hbx⟩ : ∃ bx : Nat, bx = w8.heap.size := ⟨_, rfl⟩; have zr0 := (ZB.out.2 0 _ rfl).1; have zr1 := (ZB.out.2 1 _ rfl).1; have zr2 := (ZB.out.2 2 _ rfl).1; have zr3 := (ZB.out.2 3 _ rfl).1; have zr4 := (ZB.out.2 4 _ rfl).1; have zr5 := (ZB.out.2 5 _ rfl).1; have zf0 := (ZB.out.2 0 _ rfl).2; have zf1 := (ZB.out.2 1 _ rfl).2; have zf2 := (ZB.out.2 2 _ rfl).2; have zf3 := (ZB.out.2 3 _ rfl).2; have zf4 := (ZB.out.2 4 _ rfl).2; have zf5 := (ZB.out.2 5 _ rfl).2) | (obtain ⟨bx, hbx⟩ : ∃ bx : Nat, bx = wx.heap.size := ⟨_, rfl⟩)); (try simp only [World.size_alloc, World.size_setCell, World.size_drew] at hd hd' hr); have D9 := Lib.hid hd; have E9 := Lib.hid hd'; have R9 := Lib.hid hr; clear hd hd' hr hb))
            all_goals
              rw [← hbx]
              refine wp_renameK (fun w9 => Hid (Below w8.heap.size w8 w9) ∧ Hid (Ints w9 w8.heap.size wx.heap.size Ab nb D2) ∧ Hid (Ints w9 w8.heap.size wx.heap.size Ab' nb' Sd) ∧ Hid (Ints w9 w8.heap.size wx.heap.size Eb mb R2) ∧ Hid (Box w9 bx [.slice Ab nb cb, .int .i64 (P2), .slice Ab' nb' cb', .int .i64 (Q2), .slice Eb mb kb, .int .i64 (yd)]) ∧ w8.heap.size ≤ bx ∧ wx.heap.size ≤ w9.heap.size) ⟨?_, ?_, ?_, ?_, ?_, by omega, ?_⟩ ?_
              · show Below _ _ _
                repeat (first | (with_reducible refine below_set ?_ (by omega) _) | (with_reducible refine Below.alloc ?_ (by omega) _) | (with_reducible refine Below.drew ?_))
                exact HBX.out
              · show Ints _ _ _ _ _ _
                first
                  | (refine Ints.more (lo := w8.heap.size) (hi := wx.heap.size) ?_ (by omega) (Nat.le_refl _); with_reducible exact Ints.alloc D9.out (Nat.le_refl _) _)
                  | (refine Ints.more (lo := w8.heap.size + 1) (hi := wx.heap.size) ?_ (by omega) (Nat.le_refl _); (repeat (with_reducible refine Ints.set_ ?_ (by omega) _)); with_reducible exact D9.out)
              · show Ints _ _ _ _ _ _
                first
                  | (refine Ints.more (lo := w8.heap.size) (hi := wx.heap.size) ?_ (by omega) (Nat.le_refl _); with_reducible exact Ints.alloc E9.out (Nat.le_refl _) _)
                  | (refine Ints.more (lo := w8.heap.size + 1) (hi := wx.heap.size) ?_ (by omega) (Nat.le_refl _); (repeat (with_reducible refine Ints.set_ ?_ (by omega) _)); with_reducible exact E9.out)
              · show Ints _ _ _ _ _ _
                first
                  | (refine Ints.more (lo := w8.heap.size) (hi := wx.heap.size) ?_ (by omega) (Nat.le_refl _); with_reducible exact Ints.alloc R9.out (Nat.le_refl _) _)
                  | (refine Ints.more (lo := w8.heap.size + 1) (hi := wx.heap.size) ?_ (by omega) (Nat.le_refl _); (repeat (with_reducible refine Ints.set_ ?_ (by omega) _)); with_reducible exact R9.out)
              · show Box _ _ _
                subst hbx
                first
                  | with_reducible exact Box.new wx 30 [.slice Ab nb cb, .int .i64 (P2), .slice Ab' nb' cb', .int .i64 (Q2), .slice Eb mb kb, .int .i64 (yd)]
                  | (have hx := ((((((ZB.out.put (i := 0) (by simp) (.slice Ab nb cb)).put (i := 1) (by simp) (.int .i64 (P2))).put (i := 2) (by simp) (.slice Ab' nb' cb')).put (i := 3) (by simp) (.int .i64 (Q2))).put (i := 4) (by simp) (.slice Eb mb kb)).put (i := 5) (by simp) (.int .i64 (yd))); simpa using hx)
              · first | omega | (simp only [World.size_setCell, World.size_alloc, World.size_drew]; omega)
              clear D9 E9 R9 HBX hbx
              (try clear ZB zr0 zr1 zr2 zr3 zr4 zr5 zf0 zf1 zf2 zf3 zf4 zf5)
              skip
              clear val va0 va1 va2 va3 va4 va5 vdl vd0 vd1 vd2 vd3 vd4 vd5 vxl vx0 vx1 vx2 vx3 vx4 vx5
              rintro w9 ⟨HBF, b1, b2, b3, Bb, hbx0, hwx9⟩
              have s9 := HBF.out.size
              have hbxl := Bb.out.lt
              replace l1 := Lib.hid (l1.out.below HBF.out (by omega))
              replace d1 := Lib.hid (d1.out.below HBF.out (by omega))
              replace d2 := Lib.hid (d2.out.below HBF.out (by omega))
              replace d3 := Lib.hid (d3.out.below HBF.out (by omega))
              replace Bd := Lib.hid (Bd.out.below HBF.out (by omega))
              replace x1 := Lib.hid (x1.out.below HBF.out (by omega))
              replace x2 := Lib.hid (x2.out.below HBF.out (by omega))
              replace x3 := Lib.hid (x3.out.below HBF.out (by omega))
              replace Bx := Lib.hid (Bx.out.below HBF.out (by omega))
              replace a1 := Lib.hid (a1.out.below HBF.out (by omega))
              replace a2 := Lib.hid (a2.out.below HBF.out (by omega))
              replace a3 := Lib.hid (a3.out.below HBF.out (by omega))
              replace Ba := Lib.hid (Ba.out.below HBF.out (by omega))
              replace EB := Lib.hid (below_step HBF.out EB.out (by omega))
              clear HBF
              have vbl := Bb.out.lt
              have vb0 := (Bb.out.2 0 _ rfl).1
              have vb1 := (Bb.out.2 1 _ rfl).1
              have vb2 := (Bb.out.2 2 _ rfl).1
              have vb3 := (Bb.out.2 3 _ rfl).1
              have vb4 := (Bb.out.2 4 _ rfl).1
              have vb5 := (Bb.out.2 5 _ rfl).1
              have vxl := Bx.out.lt
              have vx0 := (Bx.out.2 0 _ rfl).1
              have vx1 := (Bx.out.2 1 _ rfl).1
              have vx2 := (Bx.out.2 2 _ rfl).1
              have vx3 := (Bx.out.2 3 _ rfl).1
              have vx4 := (Bx.out.2 4 _ rfl).1
              have vx5 := (Bx.out.2 5 _ rfl).1
              go_wp2_with fail
              refine (equalWriter_same b1.out b2.out b3.out x1.out x2.out x3.out (by omega) (by omega) (by omega) (by omega) (by omega) (by omega)).mono ?_
              clear vbl vb0 vb1 vb2 vb3 vb4 vb5 vxl vx0 vx1 vx2 vx3 vx4 vx5
              rintro e w10 ⟨rfl, hb⟩
              (try simp only [World.size_alloc, World.size_setCell, World.size_drew] at hb)
              have HB := Lib.hid hb
              clear hb
              have s10 := HB.out.size
              (try simp only [World.size_alloc, World.size_setCell, World.size_drew] at s10)
              replace l1 := Lib.hid (l1.out.below HB.out (by omega))
              replace d1 := Lib.hid (d1.out.below HB.out (by omega))
              replace d2 := Lib.hid (d2.out.below HB.out (by omega))
              replace d3 := Lib.hid (d3.out.below HB.out (by omega))
              replace Bd := Lib.hid (Bd.out.below HB.out (by omega))
              replace x1 := Lib.hid (x1.out.below HB.out (by omega))
              replace x2 := Lib.hid (x2.out.below HB.out (by omega))
              replace x3 := Lib.hid (x3.out.below HB.out (by omega))
              replace Bx := Lib.hid (Bx.out.below HB.out (by omega))
              replace a1 := Lib.hid (a1.out.below HB.out (by omega))
              replace a2 := Lib.hid (a2.out.below HB.out (by omega))
              replace a3 := Lib.hid (a3.out.below HB.out (by omega))
              replace Ba := Lib.hid (Ba.out.below HB.out (by omega))
              replace b1 := Lib.hid (b1.out.below HB.out (by omega))
              replace b2 := Lib.hid (b2.out.below HB.out (by omega))
              replace b3 := Lib.hid (b3.out.below HB.out (by omega))
              replace Bb := Lib.hid (Bb.out.below HB.out (by omega))
              replace EB := Lib.hid (below_step HB.out EB.out (by omega))
              clear HB
              have vbl := Bb.out.lt
              have vb0 := (Bb.out.2 0 _ rfl).1
              have vb1 := (Bb.out.2 1 _ rfl).1
              have vb2 := (Bb.out.2 2 _ rfl).1
              have vb3 := (Bb.out.2 3 _ rfl).1
              have vb4 := (Bb.out.2 4 _ rfl).1
              have vb5 := (Bb.out.2 5 _ rfl).1
              have vxl := Bx.out.lt
              have vx0 := (Bx.out.2 0 _ rfl).1
              have vx1 := (Bx.out.2 1 _ rfl).1
              have vx2 := (Bx.out.2 2 _ rfl).1
              have vx3 := (Bx.out.2 3 _ rfl).1
              have vx4 := (Bx.out.2 4 _ rfl).1
              have vx5 := (Bx.out.2 5 _ rfl).1
              go_wp2
              go_ret
              exact ⟨rfl, EB.out⟩
        · have hq9 : 900 < Q1 := by omega
          have val := Ba.out.lt
          have va0 := (Ba.out.2 0 _ rfl).1
          have va1 := (Ba.out.2 1 _ rfl).1
          have va2 := (Ba.out.2 2 _ rfl).1
          have va3 := (Ba.out.2 3 _ rfl).1
          have va4 := (Ba.out.2 4 _ rfl).1
          have va5 := (Ba.out.2 5 _ rfl).1
          go_wp2
          go_ret
          exact ⟨rfl, EB.out⟩
      · obtain rfl := hne h1
        have h10 : (st1 == 0) = false := by simpa using h1
        have h11 : (st1 != 0) = true := by simpa using h1
        have val := Ba.out.lt
        have va0 := (Ba.out.2 0 _ rfl).1
        have va1 := (Ba.out.2 1 _ rfl).1
        have va2 := (Ba.out.2 2 _ rfl).1
        have va3 := (Ba.out.2 3 _ rfl).1
        have va4 := (Ba.out.2 4 _ rfl).1
        have va5 := (Ba.out.2 5 _ rfl).1
        go_wp2
        go_ret
        exact ⟨rfl, EB.out⟩
theorem contract (H : Type) (enc : TypeId × Value → H) (W : World) (base : Nat) (args : Array Value) (ds gs : List (DataW H)) (before : List MemPlace)
    (hval : ∀ (j : Nat) t v, Tryd.f9.params[j]? = some t → args[j]? = some v → Value.okWide Tryd.prog W .any base t v)
    (hW : DataW.Whole enc Tryd.prog Tryd.f9.params.toList Rows.fnWriteBytesTwiceSpec.vars false W args.toList ds gs before) (hL : laidMetH Tryd.prog laid3 W) :
    Calls Tryd.prog 9 args W fun e W' => ∃ v, e = .returned v ∧ Rows.fnWriteBytesTwiceSpec.post enc Tryd.prog Tryd.f9 false true false false W args v W' := by
  have hW' := hW
  have hlt : ∀ p ∈ before, p.block < W.heap.size := fun p hp => hW.lt p hp
  obtain ⟨p, q, hA0, hV0, rfl, hfz, hnd⟩ := hW
  have hA : DataW.TrodAll enc Tryd.prog W 0 (fun _ => true) true Tryd.f9.params.toList args.toList ds p := hA0
  have hV : DataW.TrodVars enc Tryd.prog W (fun _ => true) ["loop.example/streamlayers/impl.errNone", "loop.example/streamlayers/impl.errFault", "loop.example/streamlayers/impl.errFull"] gs q := hV0
  rw [Tryd.params9] at hA hval
  obtain ⟨v0, vs0, d0, ds0, p0, q0, hargs, rfl, rfl, h0, r0⟩ := trodAll_cons hA
  obtain ⟨rfl, rfl, rfl⟩ := trodAll_nil r0
  obtain rfl : args = #[v0] := by cases args; simp_all
  obtain ⟨a0, a1, a2, ⟨hv0, hv1, hv2⟩, ⟨n01, n02, n12⟩, w0, w1, w2⟩ := laid3_gives hL
  have hE := errs_of hv0 hv1 hv2 n01 n02 n12 w0 w1 w2
  have lt0 := hE.1.1.1
  have lt1 := hE.1.1.2.1
  have lt2 := hE.1.1.2.2
  have vr : ∀ {X : World}, Below W.heap.size W X → ∀ sp : Nat → Bool, DataW.TrodVars enc Tryd.prog X sp ["loop.example/streamlayers/impl.errNone", "loop.example/streamlayers/impl.errFault", "loop.example/streamlayers/impl.errFull"] [tok enc (errAt a0), tok enc (errAt a1), tok enc (errAt a2)] [.cell 0 0, .cell 1 0, .cell 2 0] := fun hb sp => vars_read3 enc (var?_below hb (by kernel_rfl) lt0 hv0) (var?_below hb (by kernel_rfl) lt1 hv1) (var?_below hb (by kernel_rfl) lt2 hv2) trivial trivial trivial sp
  obtain ⟨rfl, rfl⟩ := hV.unique (vr (Below.refl _ _) _)
  obtain ⟨A, n, c, rfl, hnc, hby, hmx⟩ := arg_bytes (hval 0 _ v0 rfl rfl) h0 (fun p hp => hlt p (by simp [hp]))
  refine (walk A n c W hby hnc hmx hE).mono fun e W' hh => ?_
  obtain ⟨rfl, hb⟩ := hh
  exact ⟨_, rfl, law_postV laidOut (tys_of (by rw [Tryd.params9]; kernel_rfl)) hW' (fun sp => vr hb sp) rfl rfl Tryd.underlying4 hb⟩

set_option maxRecDepth 100000 in
theorem lifted (os : Os) (started : os.Started) (H : Type) (enc : TypeId × Value → H) :
    ReturnsInHanded {} Tryd.checked os 9 .any (fun w args => (Rows.fnWriteBytesTwiceSpec.pre enc Tryd.prog Tryd.f9 [] false w args ∧ laidMetH Tryd.prog laid3 w) ∧ sizedMet enc Tryd.prog Tryd.f9 (OpenSpec.ofChange Rows.fnWriteBytesTwiceSpec) false w args) (Rows.fnWriteBytesTwiceSpec.post enc Tryd.prog Tryd.f9 false true false false) := by
  refine returnsInHanded_of_change_and (C := Tryd.checked) (X := fun w _ => laidMetH Tryd.prog laid3 w) (fun _ _ _ hh h => h.of_heap hh) own started (by kernel_rfl) Tryd.func9
    (ChangeSpec.witness_shaped (enc := enc) (C := Tryd.checked) (os := os) (X := fun w _ => laidMetH Tryd.prog laid3 w) false (World.doorLaid Tryd.prog 85 os) #[.slice none 0 0] 8 rfl (World.shaped_of_RefB (by kernel_rfl) (by kernel_rfl)) (by kernel_rfl) (by kernel_rfl) (by kernel_rfl) (door_met3 os _)) ?_
  intro W base args ds gs before hval hW _ _ hL _
  exact contract H enc W base args ds gs before hval hW hL

theorem row : Rows.FnWriteBytesTwiceSaid :=
  OpenClaim.holds_of_wide 9 Tryd.f9 rfl rfl rfl rfl rfl rfl rfl ⟨rfl, rfl, rfl, rfl, rfl⟩ rfl rfl rfl rfl rfl (by kernel_rfl) Tryd.func9 (by kernel_rfl)
    (of_decide_eq_true (by kernel_rfl)) (by unfold Func.isWrapper; first | (rw [if_pos (by decide +kernel)]; kernel_rfl) | (rw [if_neg (by decide +kernel)]; exact ⟨rfl, rfl⟩))
    (fun os started H enc _ => lifted os started H enc)

theorem holds : Rows.FnWriteBytesTwiceCardSaid :=
  Claim7.holds_tied_plain_at .later [] [.sentinel, .sentinel, .sentinel] true _ true
    row (fun _ h => by cases h) (by kernel_rfl) (fun _ h => by cases h) fnWriteBytesTwice_row_tie rfl ⟨rfl, rfl⟩ (by kernel_rfl) rfl
    (fun f fn hf hfn => by
      obtain rfl : f = 9 := Option.some.inj ((show Tryd.prog.funcNamed "loop.example/streamlayers/laws.FnWriteBytesTwice" = some 9 by kernel_rfl).symm.trans hf) |>.symm
      obtain rfl : fn = Tryd.f9 := (Option.some.inj (Tryd.func9.symm.trans hfn)).symm
      exact ⟨by kernel_rfl, fun j t ht => by
        have hm : t ∈ Tryd.f9.params.toList := Array.mem_toList_iff.2 (Array.mem_of_getElem? ht)
        have hall : (Tryd.f9.params.toList.all fun t => !(Tryd.prog.wantsStandIn t)) = true := by kernel_rfl
        have h9 := List.all_eq_true.1 hall t hm
        show Tryd.prog.wantsStandIn t = false
        simpa using h9⟩)
    (by kernel_rfl)
end LawWriteBytesTwice
end Go.Proofs.YtdiebkaedjlckaaDoor
