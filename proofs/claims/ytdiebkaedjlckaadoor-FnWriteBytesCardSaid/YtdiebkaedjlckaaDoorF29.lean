/- The law of promise 29: what is seen after bytes were taken is what the plain file is after they were written. No conditions. -/
import Derived.Test.YtdiebkaedjlckaaDoorG1
import Derived.Test.YtdiebkaedjlckaaDoorW3
import Derived.Test.YtdiebkaedjlckaaDoorW4
import Derived.Test.YtdiebkaedjlckaaDoorW5
import Derived.Test.YtdiebkaedjlckaaDoorT8
import Derived.Test.YtdiebkaedjlckaaDoorT5
import Derived.Test.YtdiebkaedjlckaaDoorW6
import Derived.Test.YtdiebkaedjlckaaDoorER3
import Derived.Test.YtdiebkaedjlckaaDoorCards
import Derived.Test.YtdiebkaedjlckaaDoorTie
import Derived.Deep.DeepCutAuto
set_option maxRecDepth 10000
namespace Go.Proofs.YtdiebkaedjlckaaDoor
open Go.ChangeShapes Go.WideShapes Go.ChangeAt Go.RowKit
set_option linter.unusedSimpArgs false
set_option linter.unusedVariables false
namespace LawWriteBytes
set_option maxHeartbeats 8000000 in
theorem walk {a0 a1 a2 : Addr} (A : Option Addr) (n c : Nat) (w : World) (h : BytesIn w w.heap.size A n) (hnc : n ≤ c) (hm : n ≤ 9223372036854775807) (HE : Errs w w.heap.size a0 a1 a2) :
    Calls Tryd.prog 8 #[.slice A n c] w (BoolB true w) := by
  have HBY := Lib.hid h
  clear h
  have EB := Lib.hid (Below.refl w.heap.size w)
  by_cases hbig : (1048576 : Int) < (n : Int)
  · go_enter Tryd.func8, Tryd.ntmps8
    go_wp2
    go_ret
    exact ⟨rfl, Below.refl _ _⟩
  go_enter Tryd.func8, Tryd.ntmps8
  go_wp2_with fail
  refine (DrawWriteBytes_any HBY.out (by omega) hnc).mono ?_
  rintro e w1 ⟨Ad, nd, cd, Ad', nd', cd', Ed, md, kd, Dd, Sd, Rd, pd, qd, yd, Al, nl, cl, Ll, rfl, ⟨⟨hcd, hcd', hkd⟩, ⟨hnd, hnd', hmd⟩, hpd, hqd, hyd, hb, hd, hd', hr⟩, hcl, hnl, hLx, hl⟩
  (try simp only [World.size_alloc, World.size_setCell, World.size_drew] at hb)
  have HB := Lib.hid hb
  clear hb
  have s1 := HB.out.size
  (try simp only [World.size_alloc, World.size_setCell, World.size_drew] at s1)
  replace EB := Lib.hid (below_step HB.out EB.out (by omega))
  clear HB
  clear HBY hLx
  have l1 := Lib.hid hl
  clear hl
  have d1 := Lib.hid hd
  have d2 := Lib.hid hd'
  have d3 := Lib.hid hr
  clear hd hd' hr
  go_wp2_with fail
  replace l1 := Lib.hid (l1.out.alloc (by omega) (.cells #[.slice Ad nd cd, .int .i64 (pd), .slice Ad' nd' cd', .int .i64 (qd), .slice Ed md kd, .int .i64 (yd)] 30))
  replace d1 := Lib.hid (d1.out.alloc (by omega) (.cells #[.slice Ad nd cd, .int .i64 (pd), .slice Ad' nd' cd', .int .i64 (qd), .slice Ed md kd, .int .i64 (yd)] 30))
  replace d2 := Lib.hid (d2.out.alloc (by omega) (.cells #[.slice Ad nd cd, .int .i64 (pd), .slice Ad' nd' cd', .int .i64 (qd), .slice Ed md kd, .int .i64 (yd)] 30))
  replace d3 := Lib.hid (d3.out.alloc (by omega) (.cells #[.slice Ad nd cd, .int .i64 (pd), .slice Ad' nd' cd', .int .i64 (qd), .slice Ed md kd, .int .i64 (yd)] 30))
  replace EB := Lib.hid (EB.out.alloc (by omega) (.cells #[.slice Ad nd cd, .int .i64 (pd), .slice Ad' nd' cd', .int .i64 (qd), .slice Ed md kd, .int .i64 (yd)] 30))
  have Bd := Lib.hid (Box.new w1 30 [.slice Ad nd cd, .int .i64 (pd), .slice Ad' nd' cd', .int .i64 (qd), .slice Ed md kd, .int .i64 (yd)])
  have s2 : w1.heap.size + 1 ≤ (w1.alloc (.cells #[.slice Ad nd cd, .int .i64 (pd), .slice Ad' nd' cd', .int .i64 (qd), .slice Ed md kd, .int .i64 (yd)] 30)).heap.size := by simp
  generalize w1.alloc (.cells #[.slice Ad nd cd, .int .i64 (pd), .slice Ad' nd' cd', .int .i64 (qd), .slice Ed md kd, .int .i64 (yd)] 30) = w2 at *
  cases hg : (goodW Dd pd Sd qd Rd yd && bytesB Ll)
  · have HO := Lib.hid (wb_no (e := (-1)) hg)
    have vdl := Bd.out.lt
    have vd0 := (Bd.out.2 0 _ rfl).1
    have vd1 := (Bd.out.2 1 _ rfl).1
    have vd2 := (Bd.out.2 2 _ rfl).1
    have vd3 := (Bd.out.2 3 _ rfl).1
    have vd4 := (Bd.out.2 4 _ rfl).1
    have vd5 := (Bd.out.2 5 _ rfl).1
    go_wp2_with fail
    refine (to_rii (WriteBytes_x (HE.below EB.out (Nat.le_refl _)) EB.out.size d1.out d2.out d3.out l1.out (by omega) (by omega) (by omega) (by omega) hcd hcd' hkd hcl (by omega) (by omega) (by omega) (by omega)) HO.out).mono ?_
    clear vdl vd0 vd1 vd2 vd3 vd4 vd5
    rintro e w3 ⟨Ax, nx, cx, Ax', nx', cx', Ex, mx, kx, rfl, ⟨hcx, hcx', hkx⟩, hb, hd, hd', hr⟩
    (try simp only [World.size_alloc, World.size_setCell, World.size_drew] at hb)
    have HB := Lib.hid hb
    clear hb
    have s3 := HB.out.size
    (try simp only [World.size_alloc, World.size_setCell, World.size_drew] at s3)
    replace l1 := Lib.hid (l1.out.below HB.out (by omega))
    replace d1 := Lib.hid (d1.out.below HB.out (by omega))
    replace d2 := Lib.hid (d2.out.below HB.out (by omega))
    replace d3 := Lib.hid (d3.out.below HB.out (by omega))
    replace Bd := Lib.hid (Bd.out.below HB.out (by omega))
    replace EB := Lib.hid (below_step HB.out EB.out (by omega))
    clear HB
    have x1 := Lib.hid hd
    have x2 := Lib.hid hd'
    have x3 := Lib.hid hr
    clear hd hd' hr
    have vdl := Bd.out.lt
    have vd0 := (Bd.out.2 0 _ rfl).1
    have vd1 := (Bd.out.2 1 _ rfl).1
    have vd2 := (Bd.out.2 2 _ rfl).1
    have vd3 := (Bd.out.2 3 _ rfl).1
    have vd4 := (Bd.out.2 4 _ rfl).1
    have vd5 := (Bd.out.2 5 _ rfl).1
    go_wp2_with fail
    clear vdl vd0 vd1 vd2 vd3 vd4 vd5
    replace l1 := Lib.hid (l1.out.alloc (by omega) (.cells #[.slice Ax nx cx, .int .i64 (0), .slice Ax' nx' cx', .int .i64 (0), .slice Ex mx kx, .int .i64 (0)] 30))
    replace d1 := Lib.hid (d1.out.alloc (by omega) (.cells #[.slice Ax nx cx, .int .i64 (0), .slice Ax' nx' cx', .int .i64 (0), .slice Ex mx kx, .int .i64 (0)] 30))
    replace d2 := Lib.hid (d2.out.alloc (by omega) (.cells #[.slice Ax nx cx, .int .i64 (0), .slice Ax' nx' cx', .int .i64 (0), .slice Ex mx kx, .int .i64 (0)] 30))
    replace d3 := Lib.hid (d3.out.alloc (by omega) (.cells #[.slice Ax nx cx, .int .i64 (0), .slice Ax' nx' cx', .int .i64 (0), .slice Ex mx kx, .int .i64 (0)] 30))
    replace Bd := Lib.hid (Bd.out.alloc (.cells #[.slice Ax nx cx, .int .i64 (0), .slice Ax' nx' cx', .int .i64 (0), .slice Ex mx kx, .int .i64 (0)] 30))
    replace x1 := Lib.hid (x1.out.alloc (by omega) (.cells #[.slice Ax nx cx, .int .i64 (0), .slice Ax' nx' cx', .int .i64 (0), .slice Ex mx kx, .int .i64 (0)] 30))
    replace x2 := Lib.hid (x2.out.alloc (by omega) (.cells #[.slice Ax nx cx, .int .i64 (0), .slice Ax' nx' cx', .int .i64 (0), .slice Ex mx kx, .int .i64 (0)] 30))
    replace x3 := Lib.hid (x3.out.alloc (by omega) (.cells #[.slice Ax nx cx, .int .i64 (0), .slice Ax' nx' cx', .int .i64 (0), .slice Ex mx kx, .int .i64 (0)] 30))
    replace EB := Lib.hid (EB.out.alloc (by omega) (.cells #[.slice Ax nx cx, .int .i64 (0), .slice Ax' nx' cx', .int .i64 (0), .slice Ex mx kx, .int .i64 (0)] 30))
    have Bx := Lib.hid (Box.new w3 30 [.slice Ax nx cx, .int .i64 (0), .slice Ax' nx' cx', .int .i64 (0), .slice Ex mx kx, .int .i64 (0)])
    have s4 : w3.heap.size + 1 ≤ (w3.alloc (.cells #[.slice Ax nx cx, .int .i64 (0), .slice Ax' nx' cx', .int .i64 (0), .slice Ex mx kx, .int .i64 (0)] 30)).heap.size := by simp
    generalize w3.alloc (.cells #[.slice Ax nx cx, .int .i64 (0), .slice Ax' nx' cx', .int .i64 (0), .slice Ex mx kx, .int .i64 (0)] 30) = w4 at *
    refine (to_rii (SWriteBytes_x d1.out d2.out d3.out l1.out (by omega) (by omega) (by omega) (by omega) hcd hcd' hkd hcl (by omega) (by omega) (by omega) (by omega)) HO.out).mono ?_
    rintro e w5 ⟨Ay, ny, cy, Ay', ny', cy', Ey, my, ky, rfl, ⟨hcy, hcy', hky⟩, hb, hd, hd', hr⟩
    (try simp only [World.size_alloc, World.size_setCell, World.size_drew] at hb)
    have HB := Lib.hid hb
    clear hb
    have s5 := HB.out.size
    (try simp only [World.size_alloc, World.size_setCell, World.size_drew] at s5)
    replace l1 := Lib.hid (l1.out.below HB.out (by omega))
    replace d1 := Lib.hid (d1.out.below HB.out (by omega))
    replace d2 := Lib.hid (d2.out.below HB.out (by omega))
    replace d3 := Lib.hid (d3.out.below HB.out (by omega))
    replace Bd := Lib.hid (Bd.out.below HB.out (by omega))
    replace x1 := Lib.hid (x1.out.below HB.out (by omega))
    replace x2 := Lib.hid (x2.out.below HB.out (by omega))
    replace x3 := Lib.hid (x3.out.below HB.out (by omega))
    replace Bx := Lib.hid (Bx.out.below HB.out (by omega))
    replace EB := Lib.hid (below_step HB.out EB.out (by omega))
    clear HB
    have y1 := Lib.hid hd
    have y2 := Lib.hid hd'
    have y3 := Lib.hid hr
    clear hd hd' hr
    have vxl := Bx.out.lt
    have vx0 := (Bx.out.2 0 _ rfl).1
    have vx1 := (Bx.out.2 1 _ rfl).1
    have vx2 := (Bx.out.2 2 _ rfl).1
    have vx3 := (Bx.out.2 3 _ rfl).1
    have vx4 := (Bx.out.2 4 _ rfl).1
    have vx5 := (Bx.out.2 5 _ rfl).1
    go_wp2_with fail
    clear vxl vx0 vx1 vx2 vx3 vx4 vx5
    replace l1 := Lib.hid (l1.out.alloc (by omega) (.cells #[.slice Ay ny cy, .int .i64 (0), .slice Ay' ny' cy', .int .i64 (0), .slice Ey my ky, .int .i64 (0)] 30))
    replace d1 := Lib.hid (d1.out.alloc (by omega) (.cells #[.slice Ay ny cy, .int .i64 (0), .slice Ay' ny' cy', .int .i64 (0), .slice Ey my ky, .int .i64 (0)] 30))
    replace d2 := Lib.hid (d2.out.alloc (by omega) (.cells #[.slice Ay ny cy, .int .i64 (0), .slice Ay' ny' cy', .int .i64 (0), .slice Ey my ky, .int .i64 (0)] 30))
    replace d3 := Lib.hid (d3.out.alloc (by omega) (.cells #[.slice Ay ny cy, .int .i64 (0), .slice Ay' ny' cy', .int .i64 (0), .slice Ey my ky, .int .i64 (0)] 30))
    replace Bd := Lib.hid (Bd.out.alloc (.cells #[.slice Ay ny cy, .int .i64 (0), .slice Ay' ny' cy', .int .i64 (0), .slice Ey my ky, .int .i64 (0)] 30))
    replace x1 := Lib.hid (x1.out.alloc (by omega) (.cells #[.slice Ay ny cy, .int .i64 (0), .slice Ay' ny' cy', .int .i64 (0), .slice Ey my ky, .int .i64 (0)] 30))
    replace x2 := Lib.hid (x2.out.alloc (by omega) (.cells #[.slice Ay ny cy, .int .i64 (0), .slice Ay' ny' cy', .int .i64 (0), .slice Ey my ky, .int .i64 (0)] 30))
    replace x3 := Lib.hid (x3.out.alloc (by omega) (.cells #[.slice Ay ny cy, .int .i64 (0), .slice Ay' ny' cy', .int .i64 (0), .slice Ey my ky, .int .i64 (0)] 30))
    replace Bx := Lib.hid (Bx.out.alloc (.cells #[.slice Ay ny cy, .int .i64 (0), .slice Ay' ny' cy', .int .i64 (0), .slice Ey my ky, .int .i64 (0)] 30))
    replace y1 := Lib.hid (y1.out.alloc (by omega) (.cells #[.slice Ay ny cy, .int .i64 (0), .slice Ay' ny' cy', .int .i64 (0), .slice Ey my ky, .int .i64 (0)] 30))
    replace y2 := Lib.hid (y2.out.alloc (by omega) (.cells #[.slice Ay ny cy, .int .i64 (0), .slice Ay' ny' cy', .int .i64 (0), .slice Ey my ky, .int .i64 (0)] 30))
    replace y3 := Lib.hid (y3.out.alloc (by omega) (.cells #[.slice Ay ny cy, .int .i64 (0), .slice Ay' ny' cy', .int .i64 (0), .slice Ey my ky, .int .i64 (0)] 30))
    replace EB := Lib.hid (EB.out.alloc (by omega) (.cells #[.slice Ay ny cy, .int .i64 (0), .slice Ay' ny' cy', .int .i64 (0), .slice Ey my ky, .int .i64 (0)] 30))
    have By := Lib.hid (Box.new w5 30 [.slice Ay ny cy, .int .i64 (0), .slice Ay' ny' cy', .int .i64 (0), .slice Ey my ky, .int .i64 (0)])
    have s6 : w5.heap.size + 1 ≤ (w5.alloc (.cells #[.slice Ay ny cy, .int .i64 (0), .slice Ay' ny' cy', .int .i64 (0), .slice Ey my ky, .int .i64 (0)] 30)).heap.size := by simp
    generalize w5.alloc (.cells #[.slice Ay ny cy, .int .i64 (0), .slice Ay' ny' cy', .int .i64 (0), .slice Ey my ky, .int .i64 (0)] 30) = w6 at *
    refine (equalWriter_same x1.out x2.out x3.out y1.out y2.out y3.out (by omega) (by omega) (by omega) (by omega) (by omega) (by omega)).mono ?_
    rintro e w7 ⟨rfl, hb⟩
    (try simp only [World.size_alloc, World.size_setCell, World.size_drew] at hb)
    have HB := Lib.hid hb
    clear hb
    have s7 := HB.out.size
    (try simp only [World.size_alloc, World.size_setCell, World.size_drew] at s7)
    replace l1 := Lib.hid (l1.out.below HB.out (by omega))
    replace d1 := Lib.hid (d1.out.below HB.out (by omega))
    replace d2 := Lib.hid (d2.out.below HB.out (by omega))
    replace d3 := Lib.hid (d3.out.below HB.out (by omega))
    replace Bd := Lib.hid (Bd.out.below HB.out (by omega))
    replace x1 := Lib.hid (x1.out.below HB.out (by omega))
    replace x2 := Lib.hid (x2.out.below HB.out (by omega))
    replace x3 := Lib.hid (x3.out.below HB.out (by omega))
    replace Bx := Lib.hid (Bx.out.below HB.out (by omega))
    replace y1 := Lib.hid (y1.out.below HB.out (by omega))
    replace y2 := Lib.hid (y2.out.below HB.out (by omega))
    replace y3 := Lib.hid (y3.out.below HB.out (by omega))
    replace By := Lib.hid (By.out.below HB.out (by omega))
    replace EB := Lib.hid (below_step HB.out EB.out (by omega))
    clear HB
    have vxl := Bx.out.lt
    have vx0 := (Bx.out.2 0 _ rfl).1
    have vx1 := (Bx.out.2 1 _ rfl).1
    have vx2 := (Bx.out.2 2 _ rfl).1
    have vx3 := (Bx.out.2 3 _ rfl).1
    have vx4 := (Bx.out.2 4 _ rfl).1
    have vx5 := (Bx.out.2 5 _ rfl).1
    have vyl := By.out.lt
    have vy0 := (By.out.2 0 _ rfl).1
    have vy1 := (By.out.2 1 _ rfl).1
    have vy2 := (By.out.2 2 _ rfl).1
    have vy3 := (By.out.2 3 _ rfl).1
    have vy4 := (By.out.2 4 _ rfl).1
    have vy5 := (By.out.2 5 _ rfl).1
    go_wp2_with fail
    refine (equalWriter_same x1.out x2.out x3.out y1.out y2.out y3.out (by omega) (by omega) (by omega) (by omega) (by omega) (by omega)).mono ?_
    clear vxl vx0 vx1 vx2 vx3 vx4 vx5 vyl vy0 vy1 vy2 vy3 vy4 vy5
    rintro e w8 ⟨rfl, hb⟩
    (try simp only [World.size_alloc, World.size_setCell, World.size_drew] at hb)
    have HB := Lib.hid hb
    clear hb
    have s8 := HB.out.size
    (try simp only [World.size_alloc, World.size_setCell, World.size_drew] at s8)
    replace l1 := Lib.hid (l1.out.below HB.out (by omega))
    replace d1 := Lib.hid (d1.out.below HB.out (by omega))
    replace d2 := Lib.hid (d2.out.below HB.out (by omega))
    replace d3 := Lib.hid (d3.out.below HB.out (by omega))
    replace Bd := Lib.hid (Bd.out.below HB.out (by omega))
    replace x1 := Lib.hid (x1.out.below HB.out (by omega))
    replace x2 := Lib.hid (x2.out.below HB.out (by omega))
    replace x3 := Lib.hid (x3.out.below HB.out (by omega))
    replace Bx := Lib.hid (Bx.out.below HB.out (by omega))
    replace y1 := Lib.hid (y1.out.below HB.out (by omega))
    replace y2 := Lib.hid (y2.out.below HB.out (by omega))
    replace y3 := Lib.hid (y3.out.below HB.out (by omega))
    replace By := Lib.hid (By.out.below HB.out (by omega))
    replace EB := Lib.hid (below_step HB.out EB.out (by omega))
    clear HB
    go_wp2
    go_ret
    exact ⟨rfl, EB.out⟩
  · obtain ⟨D2, P2, Q2, R2, N, st, V, V2, tl, ho, h5, hN, hL60, hst, hv2, hse, hte, htl, hV60, hse2, hte2, hV260, hpw, hS, hr2, hd2, hv⟩ := wb_seen (e := (-1)) hg
    have hnst : ¬ st = 0 → ¬ N = Ll.length := by have h1 := wb_len hg; rw [ho] at h1; intro h2 h3; exact h2 (h1.2 (by rw [h3]))
    clear hg
    have hs5 : (st == 5) = false := by simpa using h5
    rw [← l1.out.len] at hN hL60 hst hnst
    have HO := Lib.hid ho
    have ST := Lib.hid hst
    have NST := Lib.hid hnst
    have VV := Lib.hid hv2
    have SE := Lib.hid hse
    have TE := Lib.hid hte
    have SE2 := Lib.hid hse2
    have TE2 := Lib.hid hte2
    have VL := Lib.hid hV60
    have V2L := Lib.hid hV260
    have PW := Lib.hid hpw
    have SL := Lib.hid hS
    have R2L := Lib.hid hr2
    have D2L := Lib.hid hd2
    clear ho hst hnst hv2 hse hte hse2 hte2 hV60 hV260 hpw hS hr2 hd2 hv
    have vdl := Bd.out.lt
    have vd0 := (Bd.out.2 0 _ rfl).1
    have vd1 := (Bd.out.2 1 _ rfl).1
    have vd2 := (Bd.out.2 2 _ rfl).1
    have vd3 := (Bd.out.2 3 _ rfl).1
    have vd4 := (Bd.out.2 4 _ rfl).1
    have vd5 := (Bd.out.2 5 _ rfl).1
    go_wp2_with fail
    refine (to_rii (WriteBytes_x (HE.below EB.out (Nat.le_refl _)) EB.out.size d1.out d2.out d3.out l1.out (by omega) (by omega) (by omega) (by omega) hcd hcd' hkd hcl (by omega) (by omega) (by omega) (by omega)) HO.out).mono ?_
    clear vdl vd0 vd1 vd2 vd3 vd4 vd5
    rintro e w3 ⟨Ax, nx, cx, Ax', nx', cx', Ex, mx, kx, rfl, ⟨hcx, hcx', hkx⟩, hb, hd, hd', hr⟩
    (try simp only [World.size_alloc, World.size_setCell, World.size_drew] at hb)
    have HB := Lib.hid hb
    clear hb
    have s3 := HB.out.size
    (try simp only [World.size_alloc, World.size_setCell, World.size_drew] at s3)
    replace l1 := Lib.hid (l1.out.below HB.out (by omega))
    replace d1 := Lib.hid (d1.out.below HB.out (by omega))
    replace d2 := Lib.hid (d2.out.below HB.out (by omega))
    replace d3 := Lib.hid (d3.out.below HB.out (by omega))
    replace Bd := Lib.hid (Bd.out.below HB.out (by omega))
    replace EB := Lib.hid (below_step HB.out EB.out (by omega))
    clear HB
    have x1 := Lib.hid hd
    have x2 := Lib.hid hd'
    have x3 := Lib.hid hr
    clear hd hd' hr
    have vdl := Bd.out.lt
    have vd0 := (Bd.out.2 0 _ rfl).1
    have vd1 := (Bd.out.2 1 _ rfl).1
    have vd2 := (Bd.out.2 2 _ rfl).1
    have vd3 := (Bd.out.2 3 _ rfl).1
    have vd4 := (Bd.out.2 4 _ rfl).1
    have vd5 := (Bd.out.2 5 _ rfl).1
    go_wp2_with fail
    clear vdl vd0 vd1 vd2 vd3 vd4 vd5
    replace l1 := Lib.hid (l1.out.alloc (by omega) (.cells #[.slice Ax nx cx, .int .i64 (P2), .slice Ax' nx' cx', .int .i64 (Q2), .slice Ex mx kx, .int .i64 (yd)] 30))
    replace d1 := Lib.hid (d1.out.alloc (by omega) (.cells #[.slice Ax nx cx, .int .i64 (P2), .slice Ax' nx' cx', .int .i64 (Q2), .slice Ex mx kx, .int .i64 (yd)] 30))
    replace d2 := Lib.hid (d2.out.alloc (by omega) (.cells #[.slice Ax nx cx, .int .i64 (P2), .slice Ax' nx' cx', .int .i64 (Q2), .slice Ex mx kx, .int .i64 (yd)] 30))
    replace d3 := Lib.hid (d3.out.alloc (by omega) (.cells #[.slice Ax nx cx, .int .i64 (P2), .slice Ax' nx' cx', .int .i64 (Q2), .slice Ex mx kx, .int .i64 (yd)] 30))
    replace Bd := Lib.hid (Bd.out.alloc (.cells #[.slice Ax nx cx, .int .i64 (P2), .slice Ax' nx' cx', .int .i64 (Q2), .slice Ex mx kx, .int .i64 (yd)] 30))
    replace x1 := Lib.hid (x1.out.alloc (by omega) (.cells #[.slice Ax nx cx, .int .i64 (P2), .slice Ax' nx' cx', .int .i64 (Q2), .slice Ex mx kx, .int .i64 (yd)] 30))
    replace x2 := Lib.hid (x2.out.alloc (by omega) (.cells #[.slice Ax nx cx, .int .i64 (P2), .slice Ax' nx' cx', .int .i64 (Q2), .slice Ex mx kx, .int .i64 (yd)] 30))
    replace x3 := Lib.hid (x3.out.alloc (by omega) (.cells #[.slice Ax nx cx, .int .i64 (P2), .slice Ax' nx' cx', .int .i64 (Q2), .slice Ex mx kx, .int .i64 (yd)] 30))
    replace EB := Lib.hid (EB.out.alloc (by omega) (.cells #[.slice Ax nx cx, .int .i64 (P2), .slice Ax' nx' cx', .int .i64 (Q2), .slice Ex mx kx, .int .i64 (yd)] 30))
    have Bx := Lib.hid (Box.new w3 30 [.slice Ax nx cx, .int .i64 (P2), .slice Ax' nx' cx', .int .i64 (Q2), .slice Ex mx kx, .int .i64 (yd)])
    have s4 : w3.heap.size + 1 ≤ (w3.alloc (.cells #[.slice Ax nx cx, .int .i64 (P2), .slice Ax' nx' cx', .int .i64 (Q2), .slice Ex mx kx, .int .i64 (yd)] 30)).heap.size := by simp
    generalize w3.alloc (.cells #[.slice Ax nx cx, .int .i64 (P2), .slice Ax' nx' cx', .int .i64 (Q2), .slice Ex mx kx, .int .i64 (yd)] 30) = w4 at *
    refine (to_rii (SWriteBytes_x d1.out d2.out d3.out l1.out (by omega) (by omega) (by omega) (by omega) hcd hcd' hkd hcl (by omega) (by omega) (by omega) (by omega)) HO.out).mono ?_
    rintro e w5 ⟨Ay, ny, cy, Ay', ny', cy', Ey, my, ky, rfl, ⟨hcy, hcy', hky⟩, hb, hd, hd', hr⟩
    (try simp only [World.size_alloc, World.size_setCell, World.size_drew] at hb)
    have HB := Lib.hid hb
    clear hb
    have s5 := HB.out.size
    (try simp only [World.size_alloc, World.size_setCell, World.size_drew] at s5)
    replace l1 := Lib.hid (l1.out.below HB.out (by omega))
    replace d1 := Lib.hid (d1.out.below HB.out (by omega))
    replace d2 := Lib.hid (d2.out.below HB.out (by omega))
    replace d3 := Lib.hid (d3.out.below HB.out (by omega))
    replace Bd := Lib.hid (Bd.out.below HB.out (by omega))
    replace x1 := Lib.hid (x1.out.below HB.out (by omega))
    replace x2 := Lib.hid (x2.out.below HB.out (by omega))
    replace x3 := Lib.hid (x3.out.below HB.out (by omega))
    replace Bx := Lib.hid (Bx.out.below HB.out (by omega))
    replace EB := Lib.hid (below_step HB.out EB.out (by omega))
    clear HB
    have y1 := Lib.hid hd
    have y2 := Lib.hid hd'
    have y3 := Lib.hid hr
    clear hd hd' hr
    have vxl := Bx.out.lt
    have vx0 := (Bx.out.2 0 _ rfl).1
    have vx1 := (Bx.out.2 1 _ rfl).1
    have vx2 := (Bx.out.2 2 _ rfl).1
    have vx3 := (Bx.out.2 3 _ rfl).1
    have vx4 := (Bx.out.2 4 _ rfl).1
    have vx5 := (Bx.out.2 5 _ rfl).1
    go_wp2_with fail
    clear vxl vx0 vx1 vx2 vx3 vx4 vx5
    replace l1 := Lib.hid (l1.out.alloc (by omega) (.cells #[.slice Ay ny cy, .int .i64 (P2), .slice Ay' ny' cy', .int .i64 (Q2), .slice Ey my ky, .int .i64 (yd)] 30))
    replace d1 := Lib.hid (d1.out.alloc (by omega) (.cells #[.slice Ay ny cy, .int .i64 (P2), .slice Ay' ny' cy', .int .i64 (Q2), .slice Ey my ky, .int .i64 (yd)] 30))
    replace d2 := Lib.hid (d2.out.alloc (by omega) (.cells #[.slice Ay ny cy, .int .i64 (P2), .slice Ay' ny' cy', .int .i64 (Q2), .slice Ey my ky, .int .i64 (yd)] 30))
    replace d3 := Lib.hid (d3.out.alloc (by omega) (.cells #[.slice Ay ny cy, .int .i64 (P2), .slice Ay' ny' cy', .int .i64 (Q2), .slice Ey my ky, .int .i64 (yd)] 30))
    replace Bd := Lib.hid (Bd.out.alloc (.cells #[.slice Ay ny cy, .int .i64 (P2), .slice Ay' ny' cy', .int .i64 (Q2), .slice Ey my ky, .int .i64 (yd)] 30))
    replace x1 := Lib.hid (x1.out.alloc (by omega) (.cells #[.slice Ay ny cy, .int .i64 (P2), .slice Ay' ny' cy', .int .i64 (Q2), .slice Ey my ky, .int .i64 (yd)] 30))
    replace x2 := Lib.hid (x2.out.alloc (by omega) (.cells #[.slice Ay ny cy, .int .i64 (P2), .slice Ay' ny' cy', .int .i64 (Q2), .slice Ey my ky, .int .i64 (yd)] 30))
    replace x3 := Lib.hid (x3.out.alloc (by omega) (.cells #[.slice Ay ny cy, .int .i64 (P2), .slice Ay' ny' cy', .int .i64 (Q2), .slice Ey my ky, .int .i64 (yd)] 30))
    replace Bx := Lib.hid (Bx.out.alloc (.cells #[.slice Ay ny cy, .int .i64 (P2), .slice Ay' ny' cy', .int .i64 (Q2), .slice Ey my ky, .int .i64 (yd)] 30))
    replace y1 := Lib.hid (y1.out.alloc (by omega) (.cells #[.slice Ay ny cy, .int .i64 (P2), .slice Ay' ny' cy', .int .i64 (Q2), .slice Ey my ky, .int .i64 (yd)] 30))
    replace y2 := Lib.hid (y2.out.alloc (by omega) (.cells #[.slice Ay ny cy, .int .i64 (P2), .slice Ay' ny' cy', .int .i64 (Q2), .slice Ey my ky, .int .i64 (yd)] 30))
    replace y3 := Lib.hid (y3.out.alloc (by omega) (.cells #[.slice Ay ny cy, .int .i64 (P2), .slice Ay' ny' cy', .int .i64 (Q2), .slice Ey my ky, .int .i64 (yd)] 30))
    replace EB := Lib.hid (EB.out.alloc (by omega) (.cells #[.slice Ay ny cy, .int .i64 (P2), .slice Ay' ny' cy', .int .i64 (Q2), .slice Ey my ky, .int .i64 (yd)] 30))
    have By := Lib.hid (Box.new w5 30 [.slice Ay ny cy, .int .i64 (P2), .slice Ay' ny' cy', .int .i64 (Q2), .slice Ey my ky, .int .i64 (yd)])
    have s6 : w5.heap.size + 1 ≤ (w5.alloc (.cells #[.slice Ay ny cy, .int .i64 (P2), .slice Ay' ny' cy', .int .i64 (Q2), .slice Ey my ky, .int .i64 (yd)] 30)).heap.size := by simp
    generalize w5.alloc (.cells #[.slice Ay ny cy, .int .i64 (P2), .slice Ay' ny' cy', .int .i64 (Q2), .slice Ey my ky, .int .i64 (yd)] 30) = w6 at *
    refine (equalWriter_same x1.out x2.out x3.out y1.out y2.out y3.out (by omega) (by omega) (by omega) (by omega) (by omega) (by omega)).mono ?_
    rintro e w7 ⟨rfl, hb⟩
    (try simp only [World.size_alloc, World.size_setCell, World.size_drew] at hb)
    have HB := Lib.hid hb
    clear hb
    have s7 := HB.out.size
    (try simp only [World.size_alloc, World.size_setCell, World.size_drew] at s7)
    replace l1 := Lib.hid (l1.out.below HB.out (by omega))
    replace d1 := Lib.hid (d1.out.below HB.out (by omega))
    replace d2 := Lib.hid (d2.out.below HB.out (by omega))
    replace d3 := Lib.hid (d3.out.below HB.out (by omega))
    replace Bd := Lib.hid (Bd.out.below HB.out (by omega))
    replace x1 := Lib.hid (x1.out.below HB.out (by omega))
    replace x2 := Lib.hid (x2.out.below HB.out (by omega))
    replace x3 := Lib.hid (x3.out.below HB.out (by omega))
    replace Bx := Lib.hid (Bx.out.below HB.out (by omega))
    replace y1 := Lib.hid (y1.out.below HB.out (by omega))
    replace y2 := Lib.hid (y2.out.below HB.out (by omega))
    replace y3 := Lib.hid (y3.out.below HB.out (by omega))
    replace By := Lib.hid (By.out.below HB.out (by omega))
    replace EB := Lib.hid (below_step HB.out EB.out (by omega))
    clear HB
    clear y1 y2 y3 By
    have hnx : nx ≤ 60 := by have h1 := x1.out.len; have h2 := D2L.out; omega
    have hnx2 : nx' ≤ 12 := by have h1 := x2.out.len; have h2 := SL.out; omega
    have hmx : mx ≤ 16 := by have h1 := x3.out.len; have h2 := R2L.out; omega
    have vdl := Bd.out.lt
    have vd0 := (Bd.out.2 0 _ rfl).1
    have vd1 := (Bd.out.2 1 _ rfl).1
    have vd2 := (Bd.out.2 2 _ rfl).1
    have vd3 := (Bd.out.2 3 _ rfl).1
    have vd4 := (Bd.out.2 4 _ rfl).1
    have vd5 := (Bd.out.2 5 _ rfl).1
    have vxl := Bx.out.lt
    have vx0 := (Bx.out.2 0 _ rfl).1
    have vx1 := (Bx.out.2 1 _ rfl).1
    have vx2 := (Bx.out.2 2 _ rfl).1
    have vx3 := (Bx.out.2 3 _ rfl).1
    have vx4 := (Bx.out.2 4 _ rfl).1
    have vx5 := (Bx.out.2 5 _ rfl).1
    go_wp2_with fail
    refine (to_intN (TellWriter_x d1.out d2.out d3.out (by omega) (by omega) (by omega) hcd) TE.out).mono ?_
    clear vdl vd0 vd1 vd2 vd3 vd4 vd5 vxl vx0 vx1 vx2 vx3 vx4 vx5
    rintro e w8 ⟨rfl, hb⟩
    (try simp only [World.size_alloc, World.size_setCell, World.size_drew] at hb)
    have HB := Lib.hid hb
    clear hb
    have s8 := HB.out.size
    (try simp only [World.size_alloc, World.size_setCell, World.size_drew] at s8)
    replace l1 := Lib.hid (l1.out.below HB.out (by omega))
    replace d1 := Lib.hid (d1.out.below HB.out (by omega))
    replace d2 := Lib.hid (d2.out.below HB.out (by omega))
    replace d3 := Lib.hid (d3.out.below HB.out (by omega))
    replace Bd := Lib.hid (Bd.out.below HB.out (by omega))
    replace x1 := Lib.hid (x1.out.below HB.out (by omega))
    replace x2 := Lib.hid (x2.out.below HB.out (by omega))
    replace x3 := Lib.hid (x3.out.below HB.out (by omega))
    replace Bx := Lib.hid (Bx.out.below HB.out (by omega))
    replace EB := Lib.hid (below_step HB.out EB.out (by omega))
    clear HB
    have hwt : IntKind.i64.wrap (tl + (N : Int)) = tl + (N : Int) := IntWalk.i64_in _ (by omega)
    by_cases h60 : 60 < tl
    · have vxl := Bx.out.lt
      have vx0 := (Bx.out.2 0 _ rfl).1
      have vx1 := (Bx.out.2 1 _ rfl).1
      have vx2 := (Bx.out.2 2 _ rfl).1
      have vx3 := (Bx.out.2 3 _ rfl).1
      have vx4 := (Bx.out.2 4 _ rfl).1
      have vx5 := (Bx.out.2 5 _ rfl).1
      have vdl := Bd.out.lt
      have vd0 := (Bd.out.2 0 _ rfl).1
      have vd1 := (Bd.out.2 1 _ rfl).1
      have vd2 := (Bd.out.2 2 _ rfl).1
      have vd3 := (Bd.out.2 3 _ rfl).1
      have vd4 := (Bd.out.2 4 _ rfl).1
      have vd5 := (Bd.out.2 5 _ rfl).1
      go_wp2_with fail
      go_region_held3 (fun w' => (w'.cell? ⟨w3.heap.size, 0, none⟩ = some (.slice Ax nx cx) ∧ w'.cell? ⟨w3.heap.size, 1, none⟩ = some (.int .i64 (P2)) ∧ w'.cell? ⟨w3.heap.size, 2, none⟩ = some (.slice Ax' nx' cx') ∧ w'.cell? ⟨w3.heap.size, 3, none⟩ = some (.int .i64 (Q2)) ∧ w'.cell? ⟨w3.heap.size, 4, none⟩ = some (.slice Ex mx kx) ∧ w'.cell? ⟨w3.heap.size, 5, none⟩ = some (.int .i64 (yd))) ∧ (w'.cell? ⟨w1.heap.size, 0, none⟩ = some (.slice Ad nd cd) ∧ w'.cell? ⟨w1.heap.size, 1, none⟩ = some (.int .i64 (pd)) ∧ w'.cell? ⟨w1.heap.size, 2, none⟩ = some (.slice Ad' nd' cd') ∧ w'.cell? ⟨w1.heap.size, 3, none⟩ = some (.int .i64 (qd)) ∧ w'.cell? ⟨w1.heap.size, 4, none⟩ = some (.slice Ed md kd) ∧ w'.cell? ⟨w1.heap.size, 5, none⟩ = some (.int .i64 (yd)))) (go_keep)
        (first | (go_at_call 38; (with_reducible refine (to_intN (TellWriter_x x1.out.drew x2.out.drew x3.out.drew (by first | omega | (simp; omega) | (simp; done)) (by first | omega | (simp; omega) | (simp; done)) (by first | omega | (simp; omega) | (simp; done)) hcx) TE2.out).mono ?_); rintro e wg10 ⟨rfl, hb⟩; (try simp only [World.size_alloc, World.size_setCell, World.size_drew] at hb); have HRg10 := Lib.hid hb; have srg10 := hb.size; (try simp only [World.size_alloc, World.size_setCell, World.size_drew] at srg10); have Yxg10 := Lib.hid (Bx.out.drew.below hb (by omega)); have Ydg10 := Lib.hid (Bd.out.drew.below hb (by omega)); clear hb; have vx0 := (Yxg10.out.2 0 _ rfl).1; have vx1 := (Yxg10.out.2 1 _ rfl).1; have vx2 := (Yxg10.out.2 2 _ rfl).1; have vx3 := (Yxg10.out.2 3 _ rfl).1; have vx4 := (Yxg10.out.2 4 _ rfl).1; have vx5 := (Yxg10.out.2 5 _ rfl).1; have vd0 := (Ydg10.out.2 0 _ rfl).1; have vd1 := (Ydg10.out.2 1 _ rfl).1; have vd2 := (Ydg10.out.2 2 _ rfl).1; have vd3 := (Ydg10.out.2 3 _ rfl).1; have vd4 := (Ydg10.out.2 4 _ rfl).1; have vd5 := (Ydg10.out.2 5 _ rfl).1) | (go_at_call 38; (with_reducible refine (to_intN (TellWriter_x (d1.out.drew.below HRg10.out (by first | omega | (simp; omega) | (simp; done))) (d2.out.drew.below HRg10.out (by first | omega | (simp; omega) | (simp; done))) (d3.out.drew.below HRg10.out (by first | omega | (simp; omega) | (simp; done))) (by first | omega | (simp; omega) | (simp; done)) (by first | omega | (simp; omega) | (simp; done)) (by first | omega | (simp; omega) | (simp; done)) hcd) TE.out).mono ?_); rintro e wg11 ⟨rfl, hb⟩; (try simp only [World.size_alloc, World.size_setCell, World.size_drew] at hb); have HRg11 := Lib.hid hb; have srg11 := hb.size; (try simp only [World.size_alloc, World.size_setCell, World.size_drew] at srg11); have Yxg11 := Lib.hid (Yxg10.out.below hb (by omega)); have Ydg11 := Lib.hid (Ydg10.out.below hb (by omega)); clear hb; have vx0 := (Yxg11.out.2 0 _ rfl).1; have vx1 := (Yxg11.out.2 1 _ rfl).1; have vx2 := (Yxg11.out.2 2 _ rfl).1; have vx3 := (Yxg11.out.2 3 _ rfl).1; have vx4 := (Yxg11.out.2 4 _ rfl).1; have vx5 := (Yxg11.out.2 5 _ rfl).1; have vd0 := (Ydg11.out.2 0 _ rfl).1; have vd1 := (Ydg11.out.2 1 _ rfl).1; have vd2 := (Ydg11.out.2 2 _ rfl).1; have vd3 := (Ydg11.out.2 3 _ rfl).1; have vd4 := (Ydg11.out.2 4 _ rfl).1; have vd5 := (Ydg11.out.2 5 _ rfl).1) | fail)
      go_wp2
      go_ret
      exact ⟨ret_bool (by first | rfl | (simp; done) | (simp; omega)), (below_step HRg11.out (below_step HRg10.out EB.out.drew (by first | omega | (simp; omega) | (simp; done))) (by first | omega | (simp; omega) | (simp; done)))⟩
    · obtain ⟨K, hK⟩ : ∃ K : Nat, waM tl.toNat N = K := ⟨_, rfl⟩
      have hpo := PW.out (by omega)
      rw [hK] at hpo
      have PO := Lib.hid hpo
      clear hpo PW hK
      have hNc : (N : Int) ≤ (cl : Int) := by omega
      have hN0 : (0 : Int) ≤ (N : Int) := by omega
      have SDC : Hid (∀ X : World, Below w8.heap.size w8 X → Calls Tryd.prog 40 #[.agg #[.slice Ad nd cd, .int .i64 (pd), .slice Ad' nd' cd', .int .i64 (qd), .slice Ed md kd, .int .i64 (yd)]] X (ListPost V X)) := fun X hX => by have sX := hX.size; exact to_listN (SeenData_x (d1.out.below hX (by omega)) (d2.out.below hX (by omega)) (d3.out.below hX (by omega)) (by omega) (by omega) (by omega) hcd hcd' hkd (by omega) (by omega) (by omega)) SE.out
      have TWC : Hid (∀ X : World, Below w8.heap.size w8 X → Calls Tryd.prog 38 #[.agg #[.slice Ad nd cd, .int .i64 (pd), .slice Ad' nd' cd', .int .i64 (qd), .slice Ed md kd, .int .i64 (yd)]] X (IntB tl X)) := fun X hX => by have sX := hX.size; exact to_intN (TellWriter_x (d1.out.below hX (by omega)) (d2.out.below hX (by omega)) (d3.out.below hX (by omega)) (by omega) (by omega) (by omega) hcd) TE.out
      have PWC : Hid (∀ (X : World) (As : Option Addr) (ns cs lo hi : Nat), Below w8.heap.size w8 X → Ints X lo hi As ns V → hi ≤ X.heap.size → ns ≤ cs → Calls Tryd.prog 39 #[.agg #[.slice As ns cs, .int .i64 tl], .slice Al N cl] X (PostPIW V2 (tl + (K : Int)) (K : Int) X)) := fun X As ns cs lo hi hX hI hhi hcs => by have sX := hX.size; exact to_piw (PlainWrite_x hI ((l1.out.take hN).below hX (by omega)) hhi (by omega) hcs (by omega) (by have h1 := hI.len; have h2 := VL.out; omega) (by omega)) PO.out
      have vdl := Bd.out.lt
      have vd0 := (Bd.out.2 0 _ rfl).1
      have vd1 := (Bd.out.2 1 _ rfl).1
      have vd2 := (Bd.out.2 2 _ rfl).1
      have vd3 := (Bd.out.2 3 _ rfl).1
      have vd4 := (Bd.out.2 4 _ rfl).1
      have vd5 := (Bd.out.2 5 _ rfl).1
      go_upto_region 10 with (fail)
      go_cut [11] (fun s11 w2 => ∃ (bp : Nat) (Ap : Option Addr) (np cp hp : Nat), s11 = .pointer (some ⟨bp, 0, none⟩) ∧ np ≤ cp ∧ hp ≤ w2.heap.size ∧ w8.heap.size ≤ bp ∧ Hid (Below w8.heap.size w8 w2) ∧ Hid (Ints w2 w8.heap.size hp Ap np V2) ∧ Hid (Box w2 bp [.slice Ap np cp, .int .i64 (tl + (K : Int))]))
      case first =>
        go_region_law (first | (go_simp; go_at_call 40; (with_reducible refine (SDC.out _ (by go_grown)).mono ?_); rintro e wx1 ⟨As, ns, cs, rfl, hcs, hb, hl⟩; have hs1 := hb.size; (try simp only [World.size_alloc, World.size_setCell, World.size_drew] at hs1); have HB1 : Hid (Below w8.heap.size w8 wx1) := below_step hb (by go_grown) (by first | omega | (simp; omega) | (simp; done)); (try simp only [World.size_alloc, World.size_setCell, World.size_drew] at hl); have S1 := Lib.hid hl; have BD1 := Lib.hid (Bd.out.below HB1.out (by omega)); have bl1 := BD1.out.lt; have c10 := (BD1.out.2 0 _ rfl).1; have c11 := (BD1.out.2 1 _ rfl).1; have c12 := (BD1.out.2 2 _ rfl).1; have c13 := (BD1.out.2 3 _ rfl).1; have c14 := (BD1.out.2 4 _ rfl).1; have c15 := (BD1.out.2 5 _ rfl).1; (first | (have ZB1 : Hid (Box wx1 (w8.heap.size) [.slice none 0 0, .int .i64 0]) := (by show Box _ _ _; first | (have hx := Box.below (Box.new w8 62 [.slice none 0 0, .int .i64 0]) hb (by first | omega | (simp; omega) | (simp; done)); first | exact hx | simpa using hx) | (have hx := Box.below (Box.drew (Box.new w8 62 [.slice none 0 0, .int .i64 0])) hb (by first | omega | (simp; omega) | (simp; done)); first | exact hx | simpa using hx)); have z10 := (ZB1.out.2 0 _ rfl).1; have y10 := (ZB1.out.2 0 _ rfl).2; have z11 := (ZB1.out.2 1 _ rfl).1; have y11 := (ZB1.out.2 1 _ rfl).2) | skip); clear hb hl) | (go_simp; go_at_call 38; (with_reducible refine (TWC.out _ (by first | with_reducible exact HB1.out | with_reducible exact HB1.out.drew | with_reducible exact HB1.out.alloc (by first | omega | (simp; omega) | (simp; done)) _ | with_reducible exact (HB1.out.alloc (by first | omega | (simp; omega) | (simp; done)) _).drew)).mono ?_); rintro e wx2 ⟨rfl, hb⟩; have hs2 := hb.size; (try simp only [World.size_alloc, World.size_setCell, World.size_drew] at hs2); have HB2 : Hid (Below w8.heap.size w8 wx2) := below_step hb (by first | with_reducible exact HB1.out | with_reducible exact HB1.out.drew | with_reducible exact HB1.out.alloc (by first | omega | (simp; omega) | (simp; done)) _ | with_reducible exact (HB1.out.alloc (by first | omega | (simp; omega) | (simp; done)) _).drew) (by first | omega | (simp; omega) | (simp; done)); have S2 := Lib.hid (by first | exact S1.out.below hb (by first | omega | (simp; omega) | (simp; done)) | exact (S1.out.drew).below hb (by first | omega | (simp; omega) | (simp; done)) | exact (S1.out.alloc (by first | omega | (simp; omega) | (simp; done)) _).below hb (by first | omega | (simp; omega) | (simp; done)) | exact ((S1.out.alloc (by first | omega | (simp; omega) | (simp; done)) _).drew).below hb (by first | omega | (simp; omega) | (simp; done)) : Ints wx2 _ _ As ns V); have BD2 := Lib.hid (Bd.out.below HB2.out (by omega)); have bl2 := BD2.out.lt; have c20 := (BD2.out.2 0 _ rfl).1; have c21 := (BD2.out.2 1 _ rfl).1; have c22 := (BD2.out.2 2 _ rfl).1; have c23 := (BD2.out.2 3 _ rfl).1; have c24 := (BD2.out.2 4 _ rfl).1; have c25 := (BD2.out.2 5 _ rfl).1; (first | (have ZB2 : Hid (Box wx2 (w8.heap.size) [.slice none 0 0, .int .i64 0]) := (by show Box _ _ _; first | (have hx := Box.below ZB1.out hb (by first | omega | (simp; omega) | (simp; done)); first | exact hx | simpa using hx) | (have hx := Box.below (Box.drew ZB1.out) hb (by first | omega | (simp; omega) | (simp; done)); first | exact hx | simpa using hx)); have z20 := (ZB2.out.2 0 _ rfl).1; have y20 := (ZB2.out.2 0 _ rfl).2; have z21 := (ZB2.out.2 1 _ rfl).1; have y21 := (ZB2.out.2 1 _ rfl).2) | (have ZB2 : Hid (Box wx2 (wx1.heap.size) [.slice none 0 0, .int .i64 0]) := (by show Box _ _ _; first | (have hx := Box.below (Box.new wx1 62 [.slice none 0 0, .int .i64 0]) hb (by first | omega | (simp; omega) | (simp; done)); first | exact hx | simpa using hx) | (have hx := Box.below (Box.drew (Box.new wx1 62 [.slice none 0 0, .int .i64 0])) hb (by first | omega | (simp; omega) | (simp; done)); first | exact hx | simpa using hx)); have z20 := (ZB2.out.2 0 _ rfl).1; have y20 := (ZB2.out.2 0 _ rfl).2; have z21 := (ZB2.out.2 1 _ rfl).1; have y21 := (ZB2.out.2 1 _ rfl).2) | skip); clear hb) | (go_simp; go_at_call 39; (with_reducible refine (PWC.out _ _ _ _ _ _ (by first | with_reducible exact HB2.out | with_reducible exact HB2.out.drew | with_reducible exact HB2.out.alloc (by first | omega | (simp; omega) | (simp; done)) _ | with_reducible exact (HB2.out.alloc (by first | omega | (simp; omega) | (simp; done)) _).drew) (by first | exact S2.out | exact S2.out.drew | exact S2.out.alloc (by first | omega | (simp; omega) | (simp; done)) _ | exact (S2.out.alloc (by first | omega | (simp; omega) | (simp; done)) _).drew) (by first | omega | (simp; omega) | (simp; done)) hcs).mono ?_); rintro e wx3 ⟨Ap, np, cp, rfl, hcp, hb, hd⟩; have hs3 := hb.size; (try simp only [World.size_alloc, World.size_setCell, World.size_drew] at hs3); have HB3 : Hid (Below w8.heap.size w8 wx3) := below_step hb (by first | with_reducible exact HB2.out | with_reducible exact HB2.out.drew | with_reducible exact HB2.out.alloc (by first | omega | (simp; omega) | (simp; done)) _ | with_reducible exact (HB2.out.alloc (by first | omega | (simp; omega) | (simp; done)) _).drew) (by first | omega | (simp; omega) | (simp; done)); (try simp only [World.size_alloc, World.size_setCell, World.size_drew] at hd); have P3 := Lib.hid hd; (first | (have ZB3 : Hid (Box wx3 (w8.heap.size) [.slice none 0 0, .int .i64 0]) := (by show Box _ _ _; first | (have hx := Box.below ZB2.out hb (by first | omega | (simp; omega) | (simp; done)); first | exact hx | simpa using hx) | (have hx := Box.below (Box.drew ZB2.out) hb (by first | omega | (simp; omega) | (simp; done)); first | exact hx | simpa using hx)); have z30 := (ZB3.out.2 0 _ rfl).1; have y30 := (ZB3.out.2 0 _ rfl).2; have z31 := (ZB3.out.2 1 _ rfl).1; have y31 := (ZB3.out.2 1 _ rfl).2) | (have ZB3 : Hid (Box wx3 (wx1.heap.size) [.slice none 0 0, .int .i64 0]) := (by show Box _ _ _; first | (have hx := Box.below ZB2.out hb (by first | omega | (simp; omega) | (simp; done)); first | exact hx | simpa using hx) | (have hx := Box.below (Box.drew ZB2.out) hb (by first | omega | (simp; omega) | (simp; done)); first | exact hx | simpa using hx)); have z30 := (ZB3.out.2 0 _ rfl).1; have y30 := (ZB3.out.2 0 _ rfl).2; have z31 := (ZB3.out.2 1 _ rfl).1; have y31 := (ZB3.out.2 1 _ rfl).2) | (have ZB3 : Hid (Box wx3 (wx2.heap.size) [.slice none 0 0, .int .i64 0]) := (by show Box _ _ _; first | (have hx := Box.below (Box.new wx2 62 [.slice none 0 0, .int .i64 0]) hb (by first | omega | (simp; omega) | (simp; done)); first | exact hx | simpa using hx) | (have hx := Box.below (Box.drew (Box.new wx2 62 [.slice none 0 0, .int .i64 0])) hb (by first | omega | (simp; omega) | (simp; done)); first | exact hx | simpa using hx)); have z30 := (ZB3.out.2 0 _ rfl).1; have y30 := (ZB3.out.2 0 _ rfl).2; have z31 := (ZB3.out.2 1 _ rfl).1; have y31 := (ZB3.out.2 1 _ rfl).2) | skip); clear hb hd))
        all_goals
          (try go_wp2_with fail)
        all_goals go_meet
        all_goals
          refine ⟨_, Ap, np, cp, wx3.heap.size, rfl, hcp, ?_, ?_, ?_, ?_, ?_⟩
          · first | omega | (simp only [World.size_setCell, World.size_alloc, World.size_drew]; omega)
          · omega
          · show Below _ _ _
            repeat (first | (with_reducible refine below_set ?_ (by omega) _) | (with_reducible refine Below.alloc ?_ (by omega) _) | (with_reducible refine Below.drew ?_))
            exact HB3.out
          · show Ints _ _ _ _ _ _
            first
              | (refine Ints.more (lo := wx2.heap.size) (hi := wx3.heap.size) ?_ (by omega) (Nat.le_refl _); with_reducible exact Ints.alloc P3.out (Nat.le_refl _) _)
              | (refine Ints.more (lo := wx2.heap.size) (hi := wx3.heap.size) ?_ (by omega) (Nat.le_refl _); (repeat (with_reducible refine Ints.set_ ?_ (by omega) _)); with_reducible exact P3.out)
              | (refine Ints.more (lo := wx2.heap.size + 1) (hi := wx3.heap.size) ?_ (by omega) (Nat.le_refl _); (repeat (with_reducible refine Ints.set_ ?_ (by omega) _)); with_reducible exact P3.out)
          · show Box _ _ _
            first
              | with_reducible exact Box.new wx3 62 [.slice Ap np cp, .int .i64 (tl + (K : Int))]
              | (have hx := (ZB3.out.put (i := 0) (by simp) (.slice Ap np cp)).put (i := 1) (by simp) (.int .i64 (tl + (K : Int))); simpa using hx)
      case rest =>
        clear vdl vd0 vd1 vd2 vd3 vd4 vd5
        obtain ⟨bp, Ap, np, cp, hp, rfl, hcp, hph, hbp, HBF, p1, BP⟩ := hcut
        obtain ⟨w9, rfl⟩ : ∃ w2, w2 = wc := ⟨_, rfl⟩
        have s9 := HBF.out.size
        have hbpl := BP.out.lt
        replace l1 := Lib.hid (l1.out.below HBF.out (by omega))
        replace d1 := Lib.hid (d1.out.below HBF.out (by omega))
        replace d2 := Lib.hid (d2.out.below HBF.out (by omega))
        replace d3 := Lib.hid (d3.out.below HBF.out (by omega))
        replace Bd := Lib.hid (Bd.out.below HBF.out (by omega))
        replace x1 := Lib.hid (x1.out.below HBF.out (by omega))
        replace x2 := Lib.hid (x2.out.below HBF.out (by omega))
        replace x3 := Lib.hid (x3.out.below HBF.out (by omega))
        replace Bx := Lib.hid (Bx.out.below HBF.out (by omega))
        replace EB := Lib.hid (below_step HBF.out EB.out (by omega))
        clear HBF SDC TWC PWC PO
        by_cases hs0 : st = 0
        · have hNl := ST.out hs0
          subst hs0
          have hNe : ((N : Int) == (nl : Int)) = true := by rw [beq_iff_eq]; omega
          have hNi : (N : Int) = (nl : Int) := by omega
          have NE := Lib.hid hNi
          clear hNi ST hNl
          have vxl := Bx.out.lt
          have vx0 := (Bx.out.2 0 _ rfl).1
          have vx1 := (Bx.out.2 1 _ rfl).1
          have vx2 := (Bx.out.2 2 _ rfl).1
          have vx3 := (Bx.out.2 3 _ rfl).1
          have vx4 := (Bx.out.2 4 _ rfl).1
          have vx5 := (Bx.out.2 5 _ rfl).1
          have vdl := Bd.out.lt
          have vd0 := (Bd.out.2 0 _ rfl).1
          have vd1 := (Bd.out.2 1 _ rfl).1
          have vd2 := (Bd.out.2 2 _ rfl).1
          have vd3 := (Bd.out.2 3 _ rfl).1
          have vd4 := (Bd.out.2 4 _ rfl).1
          have vd5 := (Bd.out.2 5 _ rfl).1
          have vpl := BP.out.lt
          have vp0 := (BP.out.2 0 _ rfl).1
          have vp1 := (BP.out.2 1 _ rfl).1
          go_wp2_with fail
          go_region_held3 (fun w' => (w'.cell? ⟨w3.heap.size, 0, none⟩ = some (.slice Ax nx cx) ∧ w'.cell? ⟨w3.heap.size, 1, none⟩ = some (.int .i64 (P2)) ∧ w'.cell? ⟨w3.heap.size, 2, none⟩ = some (.slice Ax' nx' cx') ∧ w'.cell? ⟨w3.heap.size, 3, none⟩ = some (.int .i64 (Q2)) ∧ w'.cell? ⟨w3.heap.size, 4, none⟩ = some (.slice Ex mx kx) ∧ w'.cell? ⟨w3.heap.size, 5, none⟩ = some (.int .i64 (yd))) ∧ (w'.cell? ⟨w1.heap.size, 0, none⟩ = some (.slice Ad nd cd) ∧ w'.cell? ⟨w1.heap.size, 1, none⟩ = some (.int .i64 (pd)) ∧ w'.cell? ⟨w1.heap.size, 2, none⟩ = some (.slice Ad' nd' cd') ∧ w'.cell? ⟨w1.heap.size, 3, none⟩ = some (.int .i64 (qd)) ∧ w'.cell? ⟨w1.heap.size, 4, none⟩ = some (.slice Ed md kd) ∧ w'.cell? ⟨w1.heap.size, 5, none⟩ = some (.int .i64 (yd))) ∧ (w'.cell? ⟨bp, 0, none⟩ = some (.slice Ap np cp) ∧ w'.cell? ⟨bp, 1, none⟩ = some (.int .i64 (tl + (K : Int))))) (go_keep)
            (first | (go_at_call 40; (with_reducible refine (to_listN (SeenData_x x1.out.drew x2.out.drew x3.out.drew (by first | omega | (simp; omega) | (simp; done)) (by first | omega | (simp; omega) | (simp; done)) (by first | omega | (simp; omega) | (simp; done)) hcx hcx' hkx (by first | omega | (simp; omega) | (simp; done)) (by first | omega | (simp; omega) | (simp; done)) (by first | omega | (simp; omega) | (simp; done))) SE2.out).mono ?_); rintro e wg10 ⟨As, ns, cs, rfl, hcs, hb, hl⟩; (try simp only [World.size_alloc, World.size_setCell, World.size_drew] at hb hl); have HRg10 := Lib.hid hb; have srg10 := hb.size; (try simp only [World.size_alloc, World.size_setCell, World.size_drew] at srg10); have Yxg10 := Lib.hid (Bx.out.drew.below hb (by omega)); have Ydg10 := Lib.hid (Bd.out.drew.below hb (by omega)); have Ypg10 := Lib.hid (BP.out.drew.below hb (by omega)); have s1 := Lib.hid hl; clear hb hl; have vx0 := (Yxg10.out.2 0 _ rfl).1; have vx1 := (Yxg10.out.2 1 _ rfl).1; have vx2 := (Yxg10.out.2 2 _ rfl).1; have vx3 := (Yxg10.out.2 3 _ rfl).1; have vx4 := (Yxg10.out.2 4 _ rfl).1; have vx5 := (Yxg10.out.2 5 _ rfl).1; have vd0 := (Ydg10.out.2 0 _ rfl).1; have vd1 := (Ydg10.out.2 1 _ rfl).1; have vd2 := (Ydg10.out.2 2 _ rfl).1; have vd3 := (Ydg10.out.2 3 _ rfl).1; have vd4 := (Ydg10.out.2 4 _ rfl).1; have vd5 := (Ydg10.out.2 5 _ rfl).1; have vp0 := (Ypg10.out.2 0 _ rfl).1; have vp1 := (Ypg10.out.2 1 _ rfl).1) | (go_at_call 41; (with_reducible refine (equalInts_same s1.out (p1.out.drew.below HRg10.out (by first | omega | (simp; omega) | (simp; done))) rfl).mono ?_); rintro e wg11 ⟨rfl, hb⟩; (try simp only [World.size_alloc, World.size_setCell, World.size_drew] at hb); have HRg11 := Lib.hid hb; have srg11 := hb.size; (try simp only [World.size_alloc, World.size_setCell, World.size_drew] at srg11); have Yxg11 := Lib.hid (Yxg10.out.below hb (by omega)); have Ydg11 := Lib.hid (Ydg10.out.below hb (by omega)); have Ypg11 := Lib.hid (Ypg10.out.below hb (by omega)); clear hb; have vx0 := (Yxg11.out.2 0 _ rfl).1; have vx1 := (Yxg11.out.2 1 _ rfl).1; have vx2 := (Yxg11.out.2 2 _ rfl).1; have vx3 := (Yxg11.out.2 3 _ rfl).1; have vx4 := (Yxg11.out.2 4 _ rfl).1; have vx5 := (Yxg11.out.2 5 _ rfl).1; have vd0 := (Ydg11.out.2 0 _ rfl).1; have vd1 := (Ydg11.out.2 1 _ rfl).1; have vd2 := (Ydg11.out.2 2 _ rfl).1; have vd3 := (Ydg11.out.2 3 _ rfl).1; have vd4 := (Ydg11.out.2 4 _ rfl).1; have vd5 := (Ydg11.out.2 5 _ rfl).1; have vp0 := (Ypg11.out.2 0 _ rfl).1; have vp1 := (Ypg11.out.2 1 _ rfl).1) | (go_at_call 38; (with_reducible refine (to_intN (TellWriter_x ((x1.out.drew.below HRg10.out (by first | omega | (simp; omega) | (simp; done))).below HRg11.out (by first | omega | (simp; omega) | (simp; done))) ((x2.out.drew.below HRg10.out (by first | omega | (simp; omega) | (simp; done))).below HRg11.out (by first | omega | (simp; omega) | (simp; done))) ((x3.out.drew.below HRg10.out (by first | omega | (simp; omega) | (simp; done))).below HRg11.out (by first | omega | (simp; omega) | (simp; done))) (by first | omega | (simp; omega) | (simp; done)) (by first | omega | (simp; omega) | (simp; done)) (by first | omega | (simp; omega) | (simp; done)) hcx) TE2.out).mono ?_); rintro e wg12 ⟨rfl, hb⟩; (try simp only [World.size_alloc, World.size_setCell, World.size_drew] at hb); have HRg12 := Lib.hid hb; have srg12 := hb.size; (try simp only [World.size_alloc, World.size_setCell, World.size_drew] at srg12); have Yxg12 := Lib.hid (Yxg11.out.below hb (by omega)); have Ydg12 := Lib.hid (Ydg11.out.below hb (by omega)); have Ypg12 := Lib.hid (Ypg11.out.below hb (by omega)); clear hb; have vx0 := (Yxg12.out.2 0 _ rfl).1; have vx1 := (Yxg12.out.2 1 _ rfl).1; have vx2 := (Yxg12.out.2 2 _ rfl).1; have vx3 := (Yxg12.out.2 3 _ rfl).1; have vx4 := (Yxg12.out.2 4 _ rfl).1; have vx5 := (Yxg12.out.2 5 _ rfl).1; have vd0 := (Ydg12.out.2 0 _ rfl).1; have vd1 := (Ydg12.out.2 1 _ rfl).1; have vd2 := (Ydg12.out.2 2 _ rfl).1; have vd3 := (Ydg12.out.2 3 _ rfl).1; have vd4 := (Ydg12.out.2 4 _ rfl).1; have vd5 := (Ydg12.out.2 5 _ rfl).1; have vp0 := (Ypg12.out.2 0 _ rfl).1; have vp1 := (Ypg12.out.2 1 _ rfl).1) | (go_at_call 38; (with_reducible refine (to_intN (TellWriter_x (((d1.out.drew.below HRg10.out (by first | omega | (simp; omega) | (simp; done))).below HRg11.out (by first | omega | (simp; omega) | (simp; done))).below HRg12.out (by first | omega | (simp; omega) | (simp; done))) (((d2.out.drew.below HRg10.out (by first | omega | (simp; omega) | (simp; done))).below HRg11.out (by first | omega | (simp; omega) | (simp; done))).below HRg12.out (by first | omega | (simp; omega) | (simp; done))) (((d3.out.drew.below HRg10.out (by first | omega | (simp; omega) | (simp; done))).below HRg11.out (by first | omega | (simp; omega) | (simp; done))).below HRg12.out (by first | omega | (simp; omega) | (simp; done))) (by first | omega | (simp; omega) | (simp; done)) (by first | omega | (simp; omega) | (simp; done)) (by first | omega | (simp; omega) | (simp; done)) hcd) TE.out).mono ?_); rintro e wg13 ⟨rfl, hb⟩; (try simp only [World.size_alloc, World.size_setCell, World.size_drew] at hb); have HRg13 := Lib.hid hb; have srg13 := hb.size; (try simp only [World.size_alloc, World.size_setCell, World.size_drew] at srg13); have Yxg13 := Lib.hid (Yxg12.out.below hb (by omega)); have Ydg13 := Lib.hid (Ydg12.out.below hb (by omega)); have Ypg13 := Lib.hid (Ypg12.out.below hb (by omega)); clear hb; have vx0 := (Yxg13.out.2 0 _ rfl).1; have vx1 := (Yxg13.out.2 1 _ rfl).1; have vx2 := (Yxg13.out.2 2 _ rfl).1; have vx3 := (Yxg13.out.2 3 _ rfl).1; have vx4 := (Yxg13.out.2 4 _ rfl).1; have vx5 := (Yxg13.out.2 5 _ rfl).1; have vd0 := (Ydg13.out.2 0 _ rfl).1; have vd1 := (Ydg13.out.2 1 _ rfl).1; have vd2 := (Ydg13.out.2 2 _ rfl).1; have vd3 := (Ydg13.out.2 3 _ rfl).1; have vd4 := (Ydg13.out.2 4 _ rfl).1; have vd5 := (Ydg13.out.2 5 _ rfl).1; have vp0 := (Ypg13.out.2 0 _ rfl).1; have vp1 := (Ypg13.out.2 1 _ rfl).1) | (go_at_call 42; (with_reducible refine (to_boolN (ValidWriter_x ((((x1.out.drew.below HRg10.out (by first | omega | (simp; omega) | (simp; done))).below HRg11.out (by first | omega | (simp; omega) | (simp; done))).below HRg12.out (by first | omega | (simp; omega) | (simp; done))).below HRg13.out (by first | omega | (simp; omega) | (simp; done))) ((((x2.out.drew.below HRg10.out (by first | omega | (simp; omega) | (simp; done))).below HRg11.out (by first | omega | (simp; omega) | (simp; done))).below HRg12.out (by first | omega | (simp; omega) | (simp; done))).below HRg13.out (by first | omega | (simp; omega) | (simp; done))) ((((x3.out.drew.below HRg10.out (by first | omega | (simp; omega) | (simp; done))).below HRg11.out (by first | omega | (simp; omega) | (simp; done))).below HRg12.out (by first | omega | (simp; omega) | (simp; done))).below HRg13.out (by first | omega | (simp; omega) | (simp; done))) (by first | omega | (simp; omega) | (simp; done)) (by first | omega | (simp; omega) | (simp; done)) (by first | omega | (simp; omega) | (simp; done)) hcx) VV.out).mono ?_); rintro e wg14 ⟨rfl, hb⟩; (try simp only [World.size_alloc, World.size_setCell, World.size_drew] at hb); have HRg14 := Lib.hid hb; have srg14 := hb.size; (try simp only [World.size_alloc, World.size_setCell, World.size_drew] at srg14); have Yxg14 := Lib.hid (Yxg13.out.below hb (by omega)); have Ydg14 := Lib.hid (Ydg13.out.below hb (by omega)); have Ypg14 := Lib.hid (Ypg13.out.below hb (by omega)); clear hb; have vx0 := (Yxg14.out.2 0 _ rfl).1; have vx1 := (Yxg14.out.2 1 _ rfl).1; have vx2 := (Yxg14.out.2 2 _ rfl).1; have vx3 := (Yxg14.out.2 3 _ rfl).1; have vx4 := (Yxg14.out.2 4 _ rfl).1; have vx5 := (Yxg14.out.2 5 _ rfl).1; have vd0 := (Ydg14.out.2 0 _ rfl).1; have vd1 := (Ydg14.out.2 1 _ rfl).1; have vd2 := (Ydg14.out.2 2 _ rfl).1; have vd3 := (Ydg14.out.2 3 _ rfl).1; have vd4 := (Ydg14.out.2 4 _ rfl).1; have vd5 := (Ydg14.out.2 5 _ rfl).1; have vp0 := (Ypg14.out.2 0 _ rfl).1; have vp1 := (Ypg14.out.2 1 _ rfl).1) | fail)
          go_wp2
          go_ret
          exact ⟨ret_bool (by first | rfl | (simp; done) | (simp; omega)), (below_step HRg14.out (below_step HRg13.out (below_step HRg12.out (below_step HRg11.out (below_step HRg10.out EB.out.drew (by first | omega | (simp; omega) | (simp; done))) (by first | omega | (simp; omega) | (simp; done))) (by first | omega | (simp; omega) | (simp; done))) (by first | omega | (simp; omega) | (simp; done))) (by first | omega | (simp; omega) | (simp; done)))⟩
        · have hs1 : (st == 0) = false := by simpa using hs0
          have hNe : ((N : Int) == (nl : Int)) = false := by have := NST.out; simp; omega
          have vxl := Bx.out.lt
          have vx0 := (Bx.out.2 0 _ rfl).1
          have vx1 := (Bx.out.2 1 _ rfl).1
          have vx2 := (Bx.out.2 2 _ rfl).1
          have vx3 := (Bx.out.2 3 _ rfl).1
          have vx4 := (Bx.out.2 4 _ rfl).1
          have vx5 := (Bx.out.2 5 _ rfl).1
          have vdl := Bd.out.lt
          have vd0 := (Bd.out.2 0 _ rfl).1
          have vd1 := (Bd.out.2 1 _ rfl).1
          have vd2 := (Bd.out.2 2 _ rfl).1
          have vd3 := (Bd.out.2 3 _ rfl).1
          have vd4 := (Bd.out.2 4 _ rfl).1
          have vd5 := (Bd.out.2 5 _ rfl).1
          have vpl := BP.out.lt
          have vp0 := (BP.out.2 0 _ rfl).1
          have vp1 := (BP.out.2 1 _ rfl).1
          go_wp2_with fail
          go_region_held3 (fun w' => (w'.cell? ⟨w3.heap.size, 0, none⟩ = some (.slice Ax nx cx) ∧ w'.cell? ⟨w3.heap.size, 1, none⟩ = some (.int .i64 (P2)) ∧ w'.cell? ⟨w3.heap.size, 2, none⟩ = some (.slice Ax' nx' cx') ∧ w'.cell? ⟨w3.heap.size, 3, none⟩ = some (.int .i64 (Q2)) ∧ w'.cell? ⟨w3.heap.size, 4, none⟩ = some (.slice Ex mx kx) ∧ w'.cell? ⟨w3.heap.size, 5, none⟩ = some (.int .i64 (yd))) ∧ (w'.cell? ⟨w1.heap.size, 0, none⟩ = some (.slice Ad nd cd) ∧ w'.cell? ⟨w1.heap.size, 1, none⟩ = some (.int .i64 (pd)) ∧ w'.cell? ⟨w1.heap.size, 2, none⟩ = some (.slice Ad' nd' cd') ∧ w'.cell? ⟨w1.heap.size, 3, none⟩ = some (.int .i64 (qd)) ∧ w'.cell? ⟨w1.heap.size, 4, none⟩ = some (.slice Ed md kd) ∧ w'.cell? ⟨w1.heap.size, 5, none⟩ = some (.int .i64 (yd))) ∧ (w'.cell? ⟨bp, 0, none⟩ = some (.slice Ap np cp) ∧ w'.cell? ⟨bp, 1, none⟩ = some (.int .i64 (tl + (K : Int))))) (go_keep)
            (first | (go_at_call 40; (with_reducible refine (to_listN (SeenData_x x1.out.drew x2.out.drew x3.out.drew (by first | omega | (simp; omega) | (simp; done)) (by first | omega | (simp; omega) | (simp; done)) (by first | omega | (simp; omega) | (simp; done)) hcx hcx' hkx (by first | omega | (simp; omega) | (simp; done)) (by first | omega | (simp; omega) | (simp; done)) (by first | omega | (simp; omega) | (simp; done))) SE2.out).mono ?_); rintro e wg10 ⟨As, ns, cs, rfl, hcs, hb, hl⟩; (try simp only [World.size_alloc, World.size_setCell, World.size_drew] at hb hl); have HRg10 := Lib.hid hb; have srg10 := hb.size; (try simp only [World.size_alloc, World.size_setCell, World.size_drew] at srg10); have Yxg10 := Lib.hid (Bx.out.drew.below hb (by omega)); have Ydg10 := Lib.hid (Bd.out.drew.below hb (by omega)); have Ypg10 := Lib.hid (BP.out.drew.below hb (by omega)); have s1 := Lib.hid hl; clear hb hl; have vx0 := (Yxg10.out.2 0 _ rfl).1; have vx1 := (Yxg10.out.2 1 _ rfl).1; have vx2 := (Yxg10.out.2 2 _ rfl).1; have vx3 := (Yxg10.out.2 3 _ rfl).1; have vx4 := (Yxg10.out.2 4 _ rfl).1; have vx5 := (Yxg10.out.2 5 _ rfl).1; have vd0 := (Ydg10.out.2 0 _ rfl).1; have vd1 := (Ydg10.out.2 1 _ rfl).1; have vd2 := (Ydg10.out.2 2 _ rfl).1; have vd3 := (Ydg10.out.2 3 _ rfl).1; have vd4 := (Ydg10.out.2 4 _ rfl).1; have vd5 := (Ydg10.out.2 5 _ rfl).1; have vp0 := (Ypg10.out.2 0 _ rfl).1; have vp1 := (Ypg10.out.2 1 _ rfl).1) | (go_at_call 41; (with_reducible refine (equalInts_same s1.out (p1.out.drew.below HRg10.out (by first | omega | (simp; omega) | (simp; done))) rfl).mono ?_); rintro e wg11 ⟨rfl, hb⟩; (try simp only [World.size_alloc, World.size_setCell, World.size_drew] at hb); have HRg11 := Lib.hid hb; have srg11 := hb.size; (try simp only [World.size_alloc, World.size_setCell, World.size_drew] at srg11); have Yxg11 := Lib.hid (Yxg10.out.below hb (by omega)); have Ydg11 := Lib.hid (Ydg10.out.below hb (by omega)); have Ypg11 := Lib.hid (Ypg10.out.below hb (by omega)); clear hb; have vx0 := (Yxg11.out.2 0 _ rfl).1; have vx1 := (Yxg11.out.2 1 _ rfl).1; have vx2 := (Yxg11.out.2 2 _ rfl).1; have vx3 := (Yxg11.out.2 3 _ rfl).1; have vx4 := (Yxg11.out.2 4 _ rfl).1; have vx5 := (Yxg11.out.2 5 _ rfl).1; have vd0 := (Ydg11.out.2 0 _ rfl).1; have vd1 := (Ydg11.out.2 1 _ rfl).1; have vd2 := (Ydg11.out.2 2 _ rfl).1; have vd3 := (Ydg11.out.2 3 _ rfl).1; have vd4 := (Ydg11.out.2 4 _ rfl).1; have vd5 := (Ydg11.out.2 5 _ rfl).1; have vp0 := (Ypg11.out.2 0 _ rfl).1; have vp1 := (Ypg11.out.2 1 _ rfl).1) | (go_at_call 38; (with_reducible refine (to_intN (TellWriter_x ((x1.out.drew.below HRg10.out (by first | omega | (simp; omega) | (simp; done))).below HRg11.out (by first | omega | (simp; omega) | (simp; done))) ((x2.out.drew.below HRg10.out (by first | omega | (simp; omega) | (simp; done))).below HRg11.out (by first | omega | (simp; omega) | (simp; done))) ((x3.out.drew.below HRg10.out (by first | omega | (simp; omega) | (simp; done))).below HRg11.out (by first | omega | (simp; omega) | (simp; done))) (by first | omega | (simp; omega) | (simp; done)) (by first | omega | (simp; omega) | (simp; done)) (by first | omega | (simp; omega) | (simp; done)) hcx) TE2.out).mono ?_); rintro e wg12 ⟨rfl, hb⟩; (try simp only [World.size_alloc, World.size_setCell, World.size_drew] at hb); have HRg12 := Lib.hid hb; have srg12 := hb.size; (try simp only [World.size_alloc, World.size_setCell, World.size_drew] at srg12); have Yxg12 := Lib.hid (Yxg11.out.below hb (by omega)); have Ydg12 := Lib.hid (Ydg11.out.below hb (by omega)); have Ypg12 := Lib.hid (Ypg11.out.below hb (by omega)); clear hb; have vx0 := (Yxg12.out.2 0 _ rfl).1; have vx1 := (Yxg12.out.2 1 _ rfl).1; have vx2 := (Yxg12.out.2 2 _ rfl).1; have vx3 := (Yxg12.out.2 3 _ rfl).1; have vx4 := (Yxg12.out.2 4 _ rfl).1; have vx5 := (Yxg12.out.2 5 _ rfl).1; have vd0 := (Ydg12.out.2 0 _ rfl).1; have vd1 := (Ydg12.out.2 1 _ rfl).1; have vd2 := (Ydg12.out.2 2 _ rfl).1; have vd3 := (Ydg12.out.2 3 _ rfl).1; have vd4 := (Ydg12.out.2 4 _ rfl).1; have vd5 := (Ydg12.out.2 5 _ rfl).1; have vp0 := (Ypg12.out.2 0 _ rfl).1; have vp1 := (Ypg12.out.2 1 _ rfl).1) | (go_at_call 38; (with_reducible refine (to_intN (TellWriter_x (((d1.out.drew.below HRg10.out (by first | omega | (simp; omega) | (simp; done))).below HRg11.out (by first | omega | (simp; omega) | (simp; done))).below HRg12.out (by first | omega | (simp; omega) | (simp; done))) (((d2.out.drew.below HRg10.out (by first | omega | (simp; omega) | (simp; done))).below HRg11.out (by first | omega | (simp; omega) | (simp; done))).below HRg12.out (by first | omega | (simp; omega) | (simp; done))) (((d3.out.drew.below HRg10.out (by first | omega | (simp; omega) | (simp; done))).below HRg11.out (by first | omega | (simp; omega) | (simp; done))).below HRg12.out (by first | omega | (simp; omega) | (simp; done))) (by first | omega | (simp; omega) | (simp; done)) (by first | omega | (simp; omega) | (simp; done)) (by first | omega | (simp; omega) | (simp; done)) hcd) TE.out).mono ?_); rintro e wg13 ⟨rfl, hb⟩; (try simp only [World.size_alloc, World.size_setCell, World.size_drew] at hb); have HRg13 := Lib.hid hb; have srg13 := hb.size; (try simp only [World.size_alloc, World.size_setCell, World.size_drew] at srg13); have Yxg13 := Lib.hid (Yxg12.out.below hb (by omega)); have Ydg13 := Lib.hid (Ydg12.out.below hb (by omega)); have Ypg13 := Lib.hid (Ypg12.out.below hb (by omega)); clear hb; have vx0 := (Yxg13.out.2 0 _ rfl).1; have vx1 := (Yxg13.out.2 1 _ rfl).1; have vx2 := (Yxg13.out.2 2 _ rfl).1; have vx3 := (Yxg13.out.2 3 _ rfl).1; have vx4 := (Yxg13.out.2 4 _ rfl).1; have vx5 := (Yxg13.out.2 5 _ rfl).1; have vd0 := (Ydg13.out.2 0 _ rfl).1; have vd1 := (Ydg13.out.2 1 _ rfl).1; have vd2 := (Ydg13.out.2 2 _ rfl).1; have vd3 := (Ydg13.out.2 3 _ rfl).1; have vd4 := (Ydg13.out.2 4 _ rfl).1; have vd5 := (Ydg13.out.2 5 _ rfl).1; have vp0 := (Ypg13.out.2 0 _ rfl).1; have vp1 := (Ypg13.out.2 1 _ rfl).1) | (go_at_call 42; (with_reducible refine (to_boolN (ValidWriter_x ((((x1.out.drew.below HRg10.out (by first | omega | (simp; omega) | (simp; done))).below HRg11.out (by first | omega | (simp; omega) | (simp; done))).below HRg12.out (by first | omega | (simp; omega) | (simp; done))).below HRg13.out (by first | omega | (simp; omega) | (simp; done))) ((((x2.out.drew.below HRg10.out (by first | omega | (simp; omega) | (simp; done))).below HRg11.out (by first | omega | (simp; omega) | (simp; done))).below HRg12.out (by first | omega | (simp; omega) | (simp; done))).below HRg13.out (by first | omega | (simp; omega) | (simp; done))) ((((x3.out.drew.below HRg10.out (by first | omega | (simp; omega) | (simp; done))).below HRg11.out (by first | omega | (simp; omega) | (simp; done))).below HRg12.out (by first | omega | (simp; omega) | (simp; done))).below HRg13.out (by first | omega | (simp; omega) | (simp; done))) (by first | omega | (simp; omega) | (simp; done)) (by first | omega | (simp; omega) | (simp; done)) (by first | omega | (simp; omega) | (simp; done)) hcx) VV.out).mono ?_); rintro e wg14 ⟨rfl, hb⟩; (try simp only [World.size_alloc, World.size_setCell, World.size_drew] at hb); have HRg14 := Lib.hid hb; have srg14 := hb.size; (try simp only [World.size_alloc, World.size_setCell, World.size_drew] at srg14); have Yxg14 := Lib.hid (Yxg13.out.below hb (by omega)); have Ydg14 := Lib.hid (Ydg13.out.below hb (by omega)); have Ypg14 := Lib.hid (Ypg13.out.below hb (by omega)); clear hb; have vx0 := (Yxg14.out.2 0 _ rfl).1; have vx1 := (Yxg14.out.2 1 _ rfl).1; have vx2 := (Yxg14.out.2 2 _ rfl).1; have vx3 := (Yxg14.out.2 3 _ rfl).1; have vx4 := (Yxg14.out.2 4 _ rfl).1; have vx5 := (Yxg14.out.2 5 _ rfl).1; have vd0 := (Ydg14.out.2 0 _ rfl).1; have vd1 := (Ydg14.out.2 1 _ rfl).1; have vd2 := (Ydg14.out.2 2 _ rfl).1; have vd3 := (Ydg14.out.2 3 _ rfl).1; have vd4 := (Ydg14.out.2 4 _ rfl).1; have vd5 := (Ydg14.out.2 5 _ rfl).1; have vp0 := (Ypg14.out.2 0 _ rfl).1; have vp1 := (Ypg14.out.2 1 _ rfl).1) | fail)
          go_wp2
          go_ret
          exact ⟨ret_bool (by first | rfl | (simp; done) | (simp; omega)), (below_step HRg14.out (below_step HRg13.out (below_step HRg12.out (below_step HRg11.out (below_step HRg10.out EB.out.drew (by first | omega | (simp; omega) | (simp; done))) (by first | omega | (simp; omega) | (simp; done))) (by first | omega | (simp; omega) | (simp; done))) (by first | omega | (simp; omega) | (simp; done))) (by first | omega | (simp; omega) | (simp; done)))⟩
theorem contract (H : Type) (enc : TypeId × Value → H) (W : World) (base : Nat) (args : Array Value) (ds gs : List (DataW H)) (before : List MemPlace)
    (hval : ∀ (j : Nat) t v, Tryd.f8.params[j]? = some t → args[j]? = some v → Value.okWide Tryd.prog W .any base t v)
    (hW : DataW.Whole enc Tryd.prog Tryd.f8.params.toList Rows.fnWriteBytesSpec.vars false W args.toList ds gs before) (hL : laidMetH Tryd.prog laid3 W) :
    Calls Tryd.prog 8 args W fun e W' => ∃ v, e = .returned v ∧ Rows.fnWriteBytesSpec.post enc Tryd.prog Tryd.f8 false true false false W args v W' := by
  have hW' := hW
  have hlt : ∀ p ∈ before, p.block < W.heap.size := fun p hp => hW.lt p hp
  obtain ⟨p, q, hA0, hV0, rfl, hfz, hnd⟩ := hW
  have hA : DataW.TrodAll enc Tryd.prog W 0 (fun _ => true) true Tryd.f8.params.toList args.toList ds p := hA0
  have hV : DataW.TrodVars enc Tryd.prog W (fun _ => true) ["loop.example/streamlayers/impl.errNone", "loop.example/streamlayers/impl.errFault", "loop.example/streamlayers/impl.errFull"] gs q := hV0
  rw [Tryd.params8] at hA hval
  obtain ⟨v0, vs0, d0, ds0, p0, q0, hargs, rfl, rfl, h0, r0⟩ := trodAll_cons hA
  obtain ⟨rfl, rfl, rfl⟩ := trodAll_nil r0
  obtain rfl : args = #[v0] := by cases args; simp_all
  obtain ⟨a0, a1, a2, ⟨hv0, hv1, hv2⟩, ⟨n01, n02, n12⟩, w0, w1, w2⟩ := laid3_gives hL
  have hE := errs_of hv0 hv1 hv2 n01 n02 n12 w0 w1 w2
  have lt0 := hE.1.1.1
  have lt1 := hE.1.1.2.1
  have lt2 := hE.1.1.2.2
  have vr : ∀ {X : World}, Below W.heap.size W X → ∀ sp : Nat → Bool, DataW.TrodVars enc Tryd.prog X sp ["loop.example/streamlayers/impl.errNone", "loop.example/streamlayers/impl.errFault", "loop.example/streamlayers/impl.errFull"] [tok enc (errAt a0), tok enc (errAt a1), tok enc (errAt a2)] [.cell 0 0, .cell 1 0, .cell 2 0] := fun hb sp => vars_read3 enc (var?_below hb (by kernel_rfl) lt0 hv0) (var?_below hb (by kernel_rfl) lt1 hv1) (var?_below hb (by kernel_rfl) lt2 hv2) trivial trivial trivial sp
  obtain ⟨rfl, rfl⟩ := hV.unique (vr (Below.refl _ _) _)
  obtain ⟨A, n, c, rfl, hnc, hby, hmx⟩ := arg_bytes (hval 0 _ v0 rfl rfl) h0 (fun p hp => hlt p (by simp [hp]))
  refine (walk A n c W hby hnc hmx hE).mono fun e W' hh => ?_
  obtain ⟨rfl, hb⟩ := hh
  exact ⟨_, rfl, law_postV laidOut (tys_of (by rw [Tryd.params8]; kernel_rfl)) hW' (fun sp => vr hb sp) rfl rfl Tryd.underlying4 hb⟩

set_option maxRecDepth 100000 in
theorem lifted (os : Os) (started : os.Started) (H : Type) (enc : TypeId × Value → H) :
    ReturnsInHanded {} Tryd.checked os 8 .any (fun w args => (Rows.fnWriteBytesSpec.pre enc Tryd.prog Tryd.f8 [] false w args ∧ laidMetH Tryd.prog laid3 w) ∧ sizedMet enc Tryd.prog Tryd.f8 (OpenSpec.ofChange Rows.fnWriteBytesSpec) false w args) (Rows.fnWriteBytesSpec.post enc Tryd.prog Tryd.f8 false true false false) := by
  refine returnsInHanded_of_change_and (C := Tryd.checked) (X := fun w _ => laidMetH Tryd.prog laid3 w) (fun _ _ _ hh h => h.of_heap hh) own started (by kernel_rfl) Tryd.func8
    (ChangeSpec.witness_shaped (enc := enc) (C := Tryd.checked) (os := os) (X := fun w _ => laidMetH Tryd.prog laid3 w) false (World.doorLaid Tryd.prog 85 os) #[.slice none 0 0] 8 rfl (World.shaped_of_RefB (by kernel_rfl) (by kernel_rfl)) (by kernel_rfl) (by kernel_rfl) (by kernel_rfl) (door_met3 os _)) ?_
  intro W base args ds gs before hval hW _ _ hL _
  exact contract H enc W base args ds gs before hval hW hL

theorem row : Rows.FnWriteBytesSaid :=
  OpenClaim.holds_of_wide 8 Tryd.f8 rfl rfl rfl rfl rfl rfl rfl ⟨rfl, rfl, rfl, rfl, rfl⟩ rfl rfl rfl rfl rfl (by kernel_rfl) Tryd.func8 (by kernel_rfl)
    (of_decide_eq_true (by kernel_rfl)) (by unfold Func.isWrapper; first | (rw [if_pos (by decide +kernel)]; kernel_rfl) | (rw [if_neg (by decide +kernel)]; exact ⟨rfl, rfl⟩))
    (fun os started H enc _ => lifted os started H enc)

theorem holds : Rows.FnWriteBytesCardSaid :=
  Claim7.holds_tied_plain_at .later [] [.sentinel, .sentinel, .sentinel] true _ true
    row (fun _ h => by cases h) (by kernel_rfl) (fun _ h => by cases h) fnWriteBytes_row_tie rfl ⟨rfl, rfl⟩ (by kernel_rfl) rfl
    (fun f fn hf hfn => by
      obtain rfl : f = 8 := Option.some.inj ((show Tryd.prog.funcNamed "loop.example/streamlayers/laws.FnWriteBytes" = some 8 by kernel_rfl).symm.trans hf) |>.symm
      obtain rfl : fn = Tryd.f8 := (Option.some.inj (Tryd.func8.symm.trans hfn)).symm
      exact ⟨by kernel_rfl, fun j t ht => by
        have hm : t ∈ Tryd.f8.params.toList := Array.mem_toList_iff.2 (Array.mem_of_getElem? ht)
        have hall : (Tryd.f8.params.toList.all fun t => !(Tryd.prog.wantsStandIn t)) = true := by kernel_rfl
        have h9 := List.all_eq_true.1 hall t hm
        show Tryd.prog.wantsStandIn t = false
        simpa using h9⟩)
    (by kernel_rfl)
end LawWriteBytes
end Go.Proofs.YtdiebkaedjlckaaDoor
