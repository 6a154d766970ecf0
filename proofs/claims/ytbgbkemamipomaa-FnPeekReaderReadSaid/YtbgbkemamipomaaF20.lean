/- The law of promise 20: what was shown is what is read next, without a call. No conditions. -/
import Derived.Test.YtbgbkemamipomaaH1
import Derived.Test.YtbgbkemamipomaaH3
import Derived.Test.YtbgbkemamipomaaS2g
set_option maxRecDepth 10000
namespace Go.Proofs.Ytbgbkemamipomaa
open Go.ChangeShapes Go.WideShapes Go.ChangeAt Go.RowKit
set_option linter.unusedSimpArgs false
set_option linter.unusedVariables false
namespace LawPeekReaderRead
set_option maxHeartbeats 8000000 in
theorem walk (A : Option Addr) (n c : Nat) (w : World) (h : BytesIn w w.heap.size A n) (hnc : n ≤ c) (hm : n ≤ 9223372036854775807) :
    Calls Try.prog 10 #[.slice A n c] w (BoolB true w) := by
  have HBY := Lib.hid h
  clear h
  have EB := Lib.hid (Below.refl w.heap.size w)
  by_cases hbig : (1048576 : Int) < (n : Int)
  · go_enter Try.func10, Try.ntmps10
    go_wp2
    go_ret
    exact ⟨rfl, Below.refl _ _⟩
  go_enter Try.func10, Try.ntmps10
  go_wp2_with fail
  refine (DrawPeekReader_any HBY.out (by omega) hnc).mono ?_
  rintro e w1 ⟨Ad, nd, cd, Ad', nd', cd', Ed, md, kd, Dd, Sd, Rd, pd, qd, yd, zn, rfl, ⟨⟨hcd, hcd', hkd⟩, ⟨hnd, hnd', hmd⟩, hpd, hqd, hyd, hb, hd, hd', hr⟩, hzn⟩
  (try simp only [World.size_alloc, World.size_setCell, World.size_drew] at hb)
  have HB := Lib.hid hb
  clear hb
  have s1 := HB.out.size
  (try simp only [World.size_alloc, World.size_setCell, World.size_drew] at s1)
  replace EB := Lib.hid (below_step HB.out EB.out (by omega))
  clear HB
  clear HBY
  have d1 := Lib.hid hd
  have d2 := Lib.hid hd'
  have d3 := Lib.hid hr
  clear hd hd' hr
  go_wp2_with fail
  replace d1 := Lib.hid (d1.out.alloc (by omega) (.cells #[.slice Ad nd cd, .int .i64 (pd), .slice Ad' nd' cd', .int .i64 (qd), .slice Ed md kd, .int .i64 (yd)] 27))
  replace d2 := Lib.hid (d2.out.alloc (by omega) (.cells #[.slice Ad nd cd, .int .i64 (pd), .slice Ad' nd' cd', .int .i64 (qd), .slice Ed md kd, .int .i64 (yd)] 27))
  replace d3 := Lib.hid (d3.out.alloc (by omega) (.cells #[.slice Ad nd cd, .int .i64 (pd), .slice Ad' nd' cd', .int .i64 (qd), .slice Ed md kd, .int .i64 (yd)] 27))
  replace EB := Lib.hid (EB.out.alloc (by omega) (.cells #[.slice Ad nd cd, .int .i64 (pd), .slice Ad' nd' cd', .int .i64 (qd), .slice Ed md kd, .int .i64 (yd)] 27))
  have Bd := Lib.hid (Box.new w1 27 [.slice Ad nd cd, .int .i64 (pd), .slice Ad' nd' cd', .int .i64 (qd), .slice Ed md kd, .int .i64 (yd)])
  have s2 : w1.heap.size + 1 ≤ (w1.alloc (.cells #[.slice Ad nd cd, .int .i64 (pd), .slice Ad' nd' cd', .int .i64 (qd), .slice Ed md kd, .int .i64 (yd)] 27)).heap.size := by simp
  generalize w1.alloc (.cells #[.slice Ad nd cd, .int .i64 (pd), .slice Ad' nd' cd', .int .i64 (qd), .slice Ed md kd, .int .i64 (yd)] 27) = w2 at *
  cases hg : (goodR Dd pd Sd qd Rd yd && inB zn 1 60)
  · refine (to_rli (PeekReader_x d1.out d2.out d3.out (by omega) (by omega) (by omega) hcd hcd' hkd (by omega) (by omega) (by omega) (by unfold okInt; omega)) (rpeek_no hg)).mono ?_
    rintro e w3 ⟨Ax, nx, cx, Ax', nx', cx', Ex, mx, kx, Al, nl, cl, rfl, ⟨hcx, hcx', hkx, hcl⟩, hb, hd, hd', hr, hl⟩
    (try simp only [World.size_alloc, World.size_setCell, World.size_drew] at hb)
    have HB := Lib.hid hb
    clear hb
    have s3 := HB.out.size
    (try simp only [World.size_alloc, World.size_setCell, World.size_drew] at s3)
    replace d1 := Lib.hid (d1.out.below HB.out (by omega))
    replace d2 := Lib.hid (d2.out.below HB.out (by omega))
    replace d3 := Lib.hid (d3.out.below HB.out (by omega))
    replace Bd := Lib.hid (Bd.out.below HB.out (by omega))
    replace EB := Lib.hid (below_step HB.out EB.out (by omega))
    clear HB
    have l1 := Lib.hid hl
    have x1 := Lib.hid hd
    have x2 := Lib.hid hd'
    have x3 := Lib.hid hr
    clear hd hd' hr hl
    have vdl := Bd.out.lt
    have vd0 := (Bd.out.2 0 _ rfl).1
    have vd1 := (Bd.out.2 1 _ rfl).1
    have vd2 := (Bd.out.2 2 _ rfl).1
    have vd3 := (Bd.out.2 3 _ rfl).1
    have vd4 := (Bd.out.2 4 _ rfl).1
    have vd5 := (Bd.out.2 5 _ rfl).1
    go_wp2_with fail
    clear vdl vd0 vd1 vd2 vd3 vd4 vd5
    replace d1 := Lib.hid (d1.out.alloc (by omega) (.cells #[.slice Ax nx cx, .int .i64 (0), .slice Ax' nx' cx', .int .i64 (0), .slice Ex mx kx, .int .i64 (0)] 27))
    replace d2 := Lib.hid (d2.out.alloc (by omega) (.cells #[.slice Ax nx cx, .int .i64 (0), .slice Ax' nx' cx', .int .i64 (0), .slice Ex mx kx, .int .i64 (0)] 27))
    replace d3 := Lib.hid (d3.out.alloc (by omega) (.cells #[.slice Ax nx cx, .int .i64 (0), .slice Ax' nx' cx', .int .i64 (0), .slice Ex mx kx, .int .i64 (0)] 27))
    replace Bd := Lib.hid (Bd.out.alloc (.cells #[.slice Ax nx cx, .int .i64 (0), .slice Ax' nx' cx', .int .i64 (0), .slice Ex mx kx, .int .i64 (0)] 27))
    replace l1 := Lib.hid (l1.out.alloc (by omega) (.cells #[.slice Ax nx cx, .int .i64 (0), .slice Ax' nx' cx', .int .i64 (0), .slice Ex mx kx, .int .i64 (0)] 27))
    replace x1 := Lib.hid (x1.out.alloc (by omega) (.cells #[.slice Ax nx cx, .int .i64 (0), .slice Ax' nx' cx', .int .i64 (0), .slice Ex mx kx, .int .i64 (0)] 27))
    replace x2 := Lib.hid (x2.out.alloc (by omega) (.cells #[.slice Ax nx cx, .int .i64 (0), .slice Ax' nx' cx', .int .i64 (0), .slice Ex mx kx, .int .i64 (0)] 27))
    replace x3 := Lib.hid (x3.out.alloc (by omega) (.cells #[.slice Ax nx cx, .int .i64 (0), .slice Ax' nx' cx', .int .i64 (0), .slice Ex mx kx, .int .i64 (0)] 27))
    replace EB := Lib.hid (EB.out.alloc (by omega) (.cells #[.slice Ax nx cx, .int .i64 (0), .slice Ax' nx' cx', .int .i64 (0), .slice Ex mx kx, .int .i64 (0)] 27))
    have Bx := Lib.hid (Box.new w3 27 [.slice Ax nx cx, .int .i64 (0), .slice Ax' nx' cx', .int .i64 (0), .slice Ex mx kx, .int .i64 (0)])
    have s4 : w3.heap.size + 1 ≤ (w3.alloc (.cells #[.slice Ax nx cx, .int .i64 (0), .slice Ax' nx' cx', .int .i64 (0), .slice Ex mx kx, .int .i64 (0)] 27)).heap.size := by simp
    generalize w3.alloc (.cells #[.slice Ax nx cx, .int .i64 (0), .slice Ax' nx' cx', .int .i64 (0), .slice Ex mx kx, .int .i64 (0)] 27) = w4 at *
    refine (to_rli (SPeekReader_x d1.out d2.out d3.out (by omega) (by omega) (by omega) hcd hcd' hkd (by omega) (by omega) (by omega) (by unfold okInt; omega)) (rpeek_no hg)).mono ?_
    rintro e w5 ⟨Ay, ny, cy, Ay', ny', cy', Ey, my, ky, Am, nm, cm, rfl, ⟨hcy, hcy', hky, hcm⟩, hb, hd, hd', hr, hl⟩
    (try simp only [World.size_alloc, World.size_setCell, World.size_drew] at hb)
    have HB := Lib.hid hb
    clear hb
    have s5 := HB.out.size
    (try simp only [World.size_alloc, World.size_setCell, World.size_drew] at s5)
    replace d1 := Lib.hid (d1.out.below HB.out (by omega))
    replace d2 := Lib.hid (d2.out.below HB.out (by omega))
    replace d3 := Lib.hid (d3.out.below HB.out (by omega))
    replace Bd := Lib.hid (Bd.out.below HB.out (by omega))
    replace l1 := Lib.hid (l1.out.below HB.out (by omega))
    replace x1 := Lib.hid (x1.out.below HB.out (by omega))
    replace x2 := Lib.hid (x2.out.below HB.out (by omega))
    replace x3 := Lib.hid (x3.out.below HB.out (by omega))
    replace Bx := Lib.hid (Bx.out.below HB.out (by omega))
    replace EB := Lib.hid (below_step HB.out EB.out (by omega))
    clear HB
    have m1 := Lib.hid hl
    have y1 := Lib.hid hd
    have y2 := Lib.hid hd'
    have y3 := Lib.hid hr
    clear hd hd' hr hl
    have vxl := Bx.out.lt
    have vx0 := (Bx.out.2 0 _ rfl).1
    have vx1 := (Bx.out.2 1 _ rfl).1
    have vx2 := (Bx.out.2 2 _ rfl).1
    have vx3 := (Bx.out.2 3 _ rfl).1
    have vx4 := (Bx.out.2 4 _ rfl).1
    have vx5 := (Bx.out.2 5 _ rfl).1
    go_wp2_with fail
    clear vxl vx0 vx1 vx2 vx3 vx4 vx5
    replace d1 := Lib.hid (d1.out.alloc (by omega) (.cells #[.slice Ay ny cy, .int .i64 (0), .slice Ay' ny' cy', .int .i64 (0), .slice Ey my ky, .int .i64 (0)] 27))
    replace d2 := Lib.hid (d2.out.alloc (by omega) (.cells #[.slice Ay ny cy, .int .i64 (0), .slice Ay' ny' cy', .int .i64 (0), .slice Ey my ky, .int .i64 (0)] 27))
    replace d3 := Lib.hid (d3.out.alloc (by omega) (.cells #[.slice Ay ny cy, .int .i64 (0), .slice Ay' ny' cy', .int .i64 (0), .slice Ey my ky, .int .i64 (0)] 27))
    replace Bd := Lib.hid (Bd.out.alloc (.cells #[.slice Ay ny cy, .int .i64 (0), .slice Ay' ny' cy', .int .i64 (0), .slice Ey my ky, .int .i64 (0)] 27))
    replace l1 := Lib.hid (l1.out.alloc (by omega) (.cells #[.slice Ay ny cy, .int .i64 (0), .slice Ay' ny' cy', .int .i64 (0), .slice Ey my ky, .int .i64 (0)] 27))
    replace x1 := Lib.hid (x1.out.alloc (by omega) (.cells #[.slice Ay ny cy, .int .i64 (0), .slice Ay' ny' cy', .int .i64 (0), .slice Ey my ky, .int .i64 (0)] 27))
    replace x2 := Lib.hid (x2.out.alloc (by omega) (.cells #[.slice Ay ny cy, .int .i64 (0), .slice Ay' ny' cy', .int .i64 (0), .slice Ey my ky, .int .i64 (0)] 27))
    replace x3 := Lib.hid (x3.out.alloc (by omega) (.cells #[.slice Ay ny cy, .int .i64 (0), .slice Ay' ny' cy', .int .i64 (0), .slice Ey my ky, .int .i64 (0)] 27))
    replace Bx := Lib.hid (Bx.out.alloc (.cells #[.slice Ay ny cy, .int .i64 (0), .slice Ay' ny' cy', .int .i64 (0), .slice Ey my ky, .int .i64 (0)] 27))
    replace m1 := Lib.hid (m1.out.alloc (by omega) (.cells #[.slice Ay ny cy, .int .i64 (0), .slice Ay' ny' cy', .int .i64 (0), .slice Ey my ky, .int .i64 (0)] 27))
    replace y1 := Lib.hid (y1.out.alloc (by omega) (.cells #[.slice Ay ny cy, .int .i64 (0), .slice Ay' ny' cy', .int .i64 (0), .slice Ey my ky, .int .i64 (0)] 27))
    replace y2 := Lib.hid (y2.out.alloc (by omega) (.cells #[.slice Ay ny cy, .int .i64 (0), .slice Ay' ny' cy', .int .i64 (0), .slice Ey my ky, .int .i64 (0)] 27))
    replace y3 := Lib.hid (y3.out.alloc (by omega) (.cells #[.slice Ay ny cy, .int .i64 (0), .slice Ay' ny' cy', .int .i64 (0), .slice Ey my ky, .int .i64 (0)] 27))
    replace EB := Lib.hid (EB.out.alloc (by omega) (.cells #[.slice Ay ny cy, .int .i64 (0), .slice Ay' ny' cy', .int .i64 (0), .slice Ey my ky, .int .i64 (0)] 27))
    have By := Lib.hid (Box.new w5 27 [.slice Ay ny cy, .int .i64 (0), .slice Ay' ny' cy', .int .i64 (0), .slice Ey my ky, .int .i64 (0)])
    have s6 : w5.heap.size + 1 ≤ (w5.alloc (.cells #[.slice Ay ny cy, .int .i64 (0), .slice Ay' ny' cy', .int .i64 (0), .slice Ey my ky, .int .i64 (0)] 27)).heap.size := by simp
    generalize w5.alloc (.cells #[.slice Ay ny cy, .int .i64 (0), .slice Ay' ny' cy', .int .i64 (0), .slice Ey my ky, .int .i64 (0)] 27) = w6 at *
    refine (equalReader_same x1.out x2.out x3.out y1.out y2.out y3.out (by omega) (by omega) (by omega) (by omega) (by omega) (by omega)).mono ?_
    rintro e w7 ⟨rfl, hb⟩
    (try simp only [World.size_alloc, World.size_setCell, World.size_drew] at hb)
    have HB := Lib.hid hb
    clear hb
    have s7 := HB.out.size
    (try simp only [World.size_alloc, World.size_setCell, World.size_drew] at s7)
    replace d1 := Lib.hid (d1.out.below HB.out (by omega))
    replace d2 := Lib.hid (d2.out.below HB.out (by omega))
    replace d3 := Lib.hid (d3.out.below HB.out (by omega))
    replace Bd := Lib.hid (Bd.out.below HB.out (by omega))
    replace l1 := Lib.hid (l1.out.below HB.out (by omega))
    replace x1 := Lib.hid (x1.out.below HB.out (by omega))
    replace x2 := Lib.hid (x2.out.below HB.out (by omega))
    replace x3 := Lib.hid (x3.out.below HB.out (by omega))
    replace Bx := Lib.hid (Bx.out.below HB.out (by omega))
    replace m1 := Lib.hid (m1.out.below HB.out (by omega))
    replace y1 := Lib.hid (y1.out.below HB.out (by omega))
    replace y2 := Lib.hid (y2.out.below HB.out (by omega))
    replace y3 := Lib.hid (y3.out.below HB.out (by omega))
    replace By := Lib.hid (By.out.below HB.out (by omega))
    replace EB := Lib.hid (below_step HB.out EB.out (by omega))
    clear HB
    go_wp2_with fail
    refine (equalInts_same l1.out m1.out rfl).mono ?_
    rintro e w8 ⟨rfl, hb⟩
    (try simp only [World.size_alloc, World.size_setCell, World.size_drew] at hb)
    have HB := Lib.hid hb
    clear hb
    have s8 := HB.out.size
    (try simp only [World.size_alloc, World.size_setCell, World.size_drew] at s8)
    replace d1 := Lib.hid (d1.out.below HB.out (by omega))
    replace d2 := Lib.hid (d2.out.below HB.out (by omega))
    replace d3 := Lib.hid (d3.out.below HB.out (by omega))
    replace Bd := Lib.hid (Bd.out.below HB.out (by omega))
    replace l1 := Lib.hid (l1.out.below HB.out (by omega))
    replace x1 := Lib.hid (x1.out.below HB.out (by omega))
    replace x2 := Lib.hid (x2.out.below HB.out (by omega))
    replace x3 := Lib.hid (x3.out.below HB.out (by omega))
    replace Bx := Lib.hid (Bx.out.below HB.out (by omega))
    replace m1 := Lib.hid (m1.out.below HB.out (by omega))
    replace y1 := Lib.hid (y1.out.below HB.out (by omega))
    replace y2 := Lib.hid (y2.out.below HB.out (by omega))
    replace y3 := Lib.hid (y3.out.below HB.out (by omega))
    replace By := Lib.hid (By.out.below HB.out (by omega))
    replace EB := Lib.hid (below_step HB.out EB.out (by omega))
    clear HB
    have vxl := Bx.out.lt
    have vx0 := (Bx.out.2 0 _ rfl).1
    have vx1 := (Bx.out.2 1 _ rfl).1
    have vx2 := (Bx.out.2 2 _ rfl).1
    have vx3 := (Bx.out.2 3 _ rfl).1
    have vx4 := (Bx.out.2 4 _ rfl).1
    have vx5 := (Bx.out.2 5 _ rfl).1
    have vyl := By.out.lt
    have vy0 := (By.out.2 0 _ rfl).1
    have vy1 := (By.out.2 1 _ rfl).1
    have vy2 := (By.out.2 2 _ rfl).1
    have vy3 := (By.out.2 3 _ rfl).1
    have vy4 := (By.out.2 4 _ rfl).1
    have vy5 := (By.out.2 5 _ rfl).1
    go_wp2_with fail
    refine (equalReader_same x1.out x2.out x3.out y1.out y2.out y3.out (by omega) (by omega) (by omega) (by omega) (by omega) (by omega)).mono ?_
    clear vxl vx0 vx1 vx2 vx3 vx4 vx5 vyl vy0 vy1 vy2 vy3 vy4 vy5
    rintro e w9 ⟨rfl, hb⟩
    (try simp only [World.size_alloc, World.size_setCell, World.size_drew] at hb)
    have HB := Lib.hid hb
    clear hb
    have s9 := HB.out.size
    (try simp only [World.size_alloc, World.size_setCell, World.size_drew] at s9)
    replace d1 := Lib.hid (d1.out.below HB.out (by omega))
    replace d2 := Lib.hid (d2.out.below HB.out (by omega))
    replace d3 := Lib.hid (d3.out.below HB.out (by omega))
    replace Bd := Lib.hid (Bd.out.below HB.out (by omega))
    replace l1 := Lib.hid (l1.out.below HB.out (by omega))
    replace x1 := Lib.hid (x1.out.below HB.out (by omega))
    replace x2 := Lib.hid (x2.out.below HB.out (by omega))
    replace x3 := Lib.hid (x3.out.below HB.out (by omega))
    replace Bx := Lib.hid (Bx.out.below HB.out (by omega))
    replace m1 := Lib.hid (m1.out.below HB.out (by omega))
    replace y1 := Lib.hid (y1.out.below HB.out (by omega))
    replace y2 := Lib.hid (y2.out.below HB.out (by omega))
    replace y3 := Lib.hid (y3.out.below HB.out (by omega))
    replace By := Lib.hid (By.out.below HB.out (by omega))
    replace EB := Lib.hid (below_step HB.out EB.out (by omega))
    clear HB
    go_wp2_with fail
    refine (equalInts_same l1.out m1.out rfl).mono ?_
    rintro e w10 ⟨rfl, hb⟩
    (try simp only [World.size_alloc, World.size_setCell, World.size_drew] at hb)
    have HB := Lib.hid hb
    clear hb
    have s10 := HB.out.size
    (try simp only [World.size_alloc, World.size_setCell, World.size_drew] at s10)
    replace d1 := Lib.hid (d1.out.below HB.out (by omega))
    replace d2 := Lib.hid (d2.out.below HB.out (by omega))
    replace d3 := Lib.hid (d3.out.below HB.out (by omega))
    replace Bd := Lib.hid (Bd.out.below HB.out (by omega))
    replace l1 := Lib.hid (l1.out.below HB.out (by omega))
    replace x1 := Lib.hid (x1.out.below HB.out (by omega))
    replace x2 := Lib.hid (x2.out.below HB.out (by omega))
    replace x3 := Lib.hid (x3.out.below HB.out (by omega))
    replace Bx := Lib.hid (Bx.out.below HB.out (by omega))
    replace m1 := Lib.hid (m1.out.below HB.out (by omega))
    replace y1 := Lib.hid (y1.out.below HB.out (by omega))
    replace y2 := Lib.hid (y2.out.below HB.out (by omega))
    replace y3 := Lib.hid (y3.out.below HB.out (by omega))
    replace By := Lib.hid (By.out.below HB.out (by omega))
    replace EB := Lib.hid (below_step HB.out EB.out (by omega))
    clear HB
    go_wp2
    go_ret
    exact ⟨rfl, EB.out⟩
  · obtain ⟨t, P, Q, R1, L, st, ho, hs5, htd, had, ⟨hvx, htx, hax, hr1⟩, hbe, hln, hsm⟩ := rpeek_yes hg
    clear hg
    have HO := Lib.hid ho
    have TD := Lib.hid htd
    have AD := Lib.hid had
    have VX := Lib.hid hvx
    have TX := Lib.hid htx
    have AX := Lib.hid hax
    have R1L := Lib.hid hr1
    have BE := Lib.hid hbe
    have LN := Lib.hid hln
    have SM := Lib.hid hsm
    clear ho htd had hvx htx hax hr1 hbe hln hsm
    refine (to_rli (PeekReader_x d1.out d2.out d3.out (by omega) (by omega) (by omega) hcd hcd' hkd (by omega) (by omega) (by omega) (by unfold okInt; omega)) HO.out).mono ?_
    rintro e w3 ⟨Ax, nx, cx, Ax', nx', cx', Ex, mx, kx, Al, nl, cl, rfl, ⟨hcx, hcx', hkx, hcl⟩, hb, hd, hd', hr, hl⟩
    (try simp only [World.size_alloc, World.size_setCell, World.size_drew] at hb)
    have HB := Lib.hid hb
    clear hb
    have s3 := HB.out.size
    (try simp only [World.size_alloc, World.size_setCell, World.size_drew] at s3)
    replace d1 := Lib.hid (d1.out.below HB.out (by omega))
    replace d2 := Lib.hid (d2.out.below HB.out (by omega))
    replace d3 := Lib.hid (d3.out.below HB.out (by omega))
    replace Bd := Lib.hid (Bd.out.below HB.out (by omega))
    replace EB := Lib.hid (below_step HB.out EB.out (by omega))
    clear HB
    have l1 := Lib.hid hl
    have x1 := Lib.hid hd
    have x2 := Lib.hid hd'
    have x3 := Lib.hid hr
    clear hd hd' hr hl
    have vdl := Bd.out.lt
    have vd0 := (Bd.out.2 0 _ rfl).1
    have vd1 := (Bd.out.2 1 _ rfl).1
    have vd2 := (Bd.out.2 2 _ rfl).1
    have vd3 := (Bd.out.2 3 _ rfl).1
    have vd4 := (Bd.out.2 4 _ rfl).1
    have vd5 := (Bd.out.2 5 _ rfl).1
    go_wp2_with fail
    clear vdl vd0 vd1 vd2 vd3 vd4 vd5
    replace d1 := Lib.hid (d1.out.alloc (by omega) (.cells #[.slice Ax nx cx, .int .i64 (P), .slice Ax' nx' cx', .int .i64 (Q), .slice Ex mx kx, .int .i64 (yd)] 27))
    replace d2 := Lib.hid (d2.out.alloc (by omega) (.cells #[.slice Ax nx cx, .int .i64 (P), .slice Ax' nx' cx', .int .i64 (Q), .slice Ex mx kx, .int .i64 (yd)] 27))
    replace d3 := Lib.hid (d3.out.alloc (by omega) (.cells #[.slice Ax nx cx, .int .i64 (P), .slice Ax' nx' cx', .int .i64 (Q), .slice Ex mx kx, .int .i64 (yd)] 27))
    replace Bd := Lib.hid (Bd.out.alloc (.cells #[.slice Ax nx cx, .int .i64 (P), .slice Ax' nx' cx', .int .i64 (Q), .slice Ex mx kx, .int .i64 (yd)] 27))
    replace l1 := Lib.hid (l1.out.alloc (by omega) (.cells #[.slice Ax nx cx, .int .i64 (P), .slice Ax' nx' cx', .int .i64 (Q), .slice Ex mx kx, .int .i64 (yd)] 27))
    replace x1 := Lib.hid (x1.out.alloc (by omega) (.cells #[.slice Ax nx cx, .int .i64 (P), .slice Ax' nx' cx', .int .i64 (Q), .slice Ex mx kx, .int .i64 (yd)] 27))
    replace x2 := Lib.hid (x2.out.alloc (by omega) (.cells #[.slice Ax nx cx, .int .i64 (P), .slice Ax' nx' cx', .int .i64 (Q), .slice Ex mx kx, .int .i64 (yd)] 27))
    replace x3 := Lib.hid (x3.out.alloc (by omega) (.cells #[.slice Ax nx cx, .int .i64 (P), .slice Ax' nx' cx', .int .i64 (Q), .slice Ex mx kx, .int .i64 (yd)] 27))
    replace EB := Lib.hid (EB.out.alloc (by omega) (.cells #[.slice Ax nx cx, .int .i64 (P), .slice Ax' nx' cx', .int .i64 (Q), .slice Ex mx kx, .int .i64 (yd)] 27))
    have Bx := Lib.hid (Box.new w3 27 [.slice Ax nx cx, .int .i64 (P), .slice Ax' nx' cx', .int .i64 (Q), .slice Ex mx kx, .int .i64 (yd)])
    have s4 : w3.heap.size + 1 ≤ (w3.alloc (.cells #[.slice Ax nx cx, .int .i64 (P), .slice Ax' nx' cx', .int .i64 (Q), .slice Ex mx kx, .int .i64 (yd)] 27)).heap.size := by simp
    generalize w3.alloc (.cells #[.slice Ax nx cx, .int .i64 (P), .slice Ax' nx' cx', .int .i64 (Q), .slice Ex mx kx, .int .i64 (yd)] 27) = w4 at *
    refine (to_rli (SPeekReader_x d1.out d2.out d3.out (by omega) (by omega) (by omega) hcd hcd' hkd (by omega) (by omega) (by omega) (by unfold okInt; omega)) HO.out).mono ?_
    rintro e w5 ⟨Ay, ny, cy, Ay', ny', cy', Ey, my, ky, Am, nm, cm, rfl, ⟨hcy, hcy', hky, hcm⟩, hb, hd, hd', hr, hl⟩
    (try simp only [World.size_alloc, World.size_setCell, World.size_drew] at hb)
    have HB := Lib.hid hb
    clear hb
    have s5 := HB.out.size
    (try simp only [World.size_alloc, World.size_setCell, World.size_drew] at s5)
    replace d1 := Lib.hid (d1.out.below HB.out (by omega))
    replace d2 := Lib.hid (d2.out.below HB.out (by omega))
    replace d3 := Lib.hid (d3.out.below HB.out (by omega))
    replace Bd := Lib.hid (Bd.out.below HB.out (by omega))
    replace l1 := Lib.hid (l1.out.below HB.out (by omega))
    replace x1 := Lib.hid (x1.out.below HB.out (by omega))
    replace x2 := Lib.hid (x2.out.below HB.out (by omega))
    replace x3 := Lib.hid (x3.out.below HB.out (by omega))
    replace Bx := Lib.hid (Bx.out.below HB.out (by omega))
    replace EB := Lib.hid (below_step HB.out EB.out (by omega))
    clear HB
    have m1 := Lib.hid hl
    have y1 := Lib.hid hd
    have y2 := Lib.hid hd'
    have y3 := Lib.hid hr
    clear hd hd' hr hl
    have vxl := Bx.out.lt
    have vx0 := (Bx.out.2 0 _ rfl).1
    have vx1 := (Bx.out.2 1 _ rfl).1
    have vx2 := (Bx.out.2 2 _ rfl).1
    have vx3 := (Bx.out.2 3 _ rfl).1
    have vx4 := (Bx.out.2 4 _ rfl).1
    have vx5 := (Bx.out.2 5 _ rfl).1
    go_wp2_with fail
    clear vxl vx0 vx1 vx2 vx3 vx4 vx5
    replace d1 := Lib.hid (d1.out.alloc (by omega) (.cells #[.slice Ay ny cy, .int .i64 (P), .slice Ay' ny' cy', .int .i64 (Q), .slice Ey my ky, .int .i64 (yd)] 27))
    replace d2 := Lib.hid (d2.out.alloc (by omega) (.cells #[.slice Ay ny cy, .int .i64 (P), .slice Ay' ny' cy', .int .i64 (Q), .slice Ey my ky, .int .i64 (yd)] 27))
    replace d3 := Lib.hid (d3.out.alloc (by omega) (.cells #[.slice Ay ny cy, .int .i64 (P), .slice Ay' ny' cy', .int .i64 (Q), .slice Ey my ky, .int .i64 (yd)] 27))
    replace Bd := Lib.hid (Bd.out.alloc (.cells #[.slice Ay ny cy, .int .i64 (P), .slice Ay' ny' cy', .int .i64 (Q), .slice Ey my ky, .int .i64 (yd)] 27))
    replace l1 := Lib.hid (l1.out.alloc (by omega) (.cells #[.slice Ay ny cy, .int .i64 (P), .slice Ay' ny' cy', .int .i64 (Q), .slice Ey my ky, .int .i64 (yd)] 27))
    replace x1 := Lib.hid (x1.out.alloc (by omega) (.cells #[.slice Ay ny cy, .int .i64 (P), .slice Ay' ny' cy', .int .i64 (Q), .slice Ey my ky, .int .i64 (yd)] 27))
    replace x2 := Lib.hid (x2.out.alloc (by omega) (.cells #[.slice Ay ny cy, .int .i64 (P), .slice Ay' ny' cy', .int .i64 (Q), .slice Ey my ky, .int .i64 (yd)] 27))
    replace x3 := Lib.hid (x3.out.alloc (by omega) (.cells #[.slice Ay ny cy, .int .i64 (P), .slice Ay' ny' cy', .int .i64 (Q), .slice Ey my ky, .int .i64 (yd)] 27))
    replace Bx := Lib.hid (Bx.out.alloc (.cells #[.slice Ay ny cy, .int .i64 (P), .slice Ay' ny' cy', .int .i64 (Q), .slice Ey my ky, .int .i64 (yd)] 27))
    replace m1 := Lib.hid (m1.out.alloc (by omega) (.cells #[.slice Ay ny cy, .int .i64 (P), .slice Ay' ny' cy', .int .i64 (Q), .slice Ey my ky, .int .i64 (yd)] 27))
    replace y1 := Lib.hid (y1.out.alloc (by omega) (.cells #[.slice Ay ny cy, .int .i64 (P), .slice Ay' ny' cy', .int .i64 (Q), .slice Ey my ky, .int .i64 (yd)] 27))
    replace y2 := Lib.hid (y2.out.alloc (by omega) (.cells #[.slice Ay ny cy, .int .i64 (P), .slice Ay' ny' cy', .int .i64 (Q), .slice Ey my ky, .int .i64 (yd)] 27))
    replace y3 := Lib.hid (y3.out.alloc (by omega) (.cells #[.slice Ay ny cy, .int .i64 (P), .slice Ay' ny' cy', .int .i64 (Q), .slice Ey my ky, .int .i64 (yd)] 27))
    replace EB := Lib.hid (EB.out.alloc (by omega) (.cells #[.slice Ay ny cy, .int .i64 (P), .slice Ay' ny' cy', .int .i64 (Q), .slice Ey my ky, .int .i64 (yd)] 27))
    have By := Lib.hid (Box.new w5 27 [.slice Ay ny cy, .int .i64 (P), .slice Ay' ny' cy', .int .i64 (Q), .slice Ey my ky, .int .i64 (yd)])
    have s6 : w5.heap.size + 1 ≤ (w5.alloc (.cells #[.slice Ay ny cy, .int .i64 (P), .slice Ay' ny' cy', .int .i64 (Q), .slice Ey my ky, .int .i64 (yd)] 27)).heap.size := by simp
    generalize w5.alloc (.cells #[.slice Ay ny cy, .int .i64 (P), .slice Ay' ny' cy', .int .i64 (Q), .slice Ey my ky, .int .i64 (yd)] 27) = w6 at *
    refine (equalReader_same x1.out x2.out x3.out y1.out y2.out y3.out (by omega) (by omega) (by omega) (by omega) (by omega) (by omega)).mono ?_
    rintro e w7 ⟨rfl, hb⟩
    (try simp only [World.size_alloc, World.size_setCell, World.size_drew] at hb)
    have HB := Lib.hid hb
    clear hb
    have s7 := HB.out.size
    (try simp only [World.size_alloc, World.size_setCell, World.size_drew] at s7)
    replace d1 := Lib.hid (d1.out.below HB.out (by omega))
    replace d2 := Lib.hid (d2.out.below HB.out (by omega))
    replace d3 := Lib.hid (d3.out.below HB.out (by omega))
    replace Bd := Lib.hid (Bd.out.below HB.out (by omega))
    replace l1 := Lib.hid (l1.out.below HB.out (by omega))
    replace x1 := Lib.hid (x1.out.below HB.out (by omega))
    replace x2 := Lib.hid (x2.out.below HB.out (by omega))
    replace x3 := Lib.hid (x3.out.below HB.out (by omega))
    replace Bx := Lib.hid (Bx.out.below HB.out (by omega))
    replace m1 := Lib.hid (m1.out.below HB.out (by omega))
    replace y1 := Lib.hid (y1.out.below HB.out (by omega))
    replace y2 := Lib.hid (y2.out.below HB.out (by omega))
    replace y3 := Lib.hid (y3.out.below HB.out (by omega))
    replace By := Lib.hid (By.out.below HB.out (by omega))
    replace EB := Lib.hid (below_step HB.out EB.out (by omega))
    clear HB
    go_wp2_with fail
    refine (equalInts_same l1.out m1.out rfl).mono ?_
    rintro e w8 ⟨rfl, hb⟩
    (try simp only [World.size_alloc, World.size_setCell, World.size_drew] at hb)
    have HB := Lib.hid hb
    clear hb
    have s8 := HB.out.size
    (try simp only [World.size_alloc, World.size_setCell, World.size_drew] at s8)
    replace d1 := Lib.hid (d1.out.below HB.out (by omega))
    replace d2 := Lib.hid (d2.out.below HB.out (by omega))
    replace d3 := Lib.hid (d3.out.below HB.out (by omega))
    replace Bd := Lib.hid (Bd.out.below HB.out (by omega))
    replace l1 := Lib.hid (l1.out.below HB.out (by omega))
    replace x1 := Lib.hid (x1.out.below HB.out (by omega))
    replace x2 := Lib.hid (x2.out.below HB.out (by omega))
    replace x3 := Lib.hid (x3.out.below HB.out (by omega))
    replace Bx := Lib.hid (Bx.out.below HB.out (by omega))
    replace m1 := Lib.hid (m1.out.below HB.out (by omega))
    replace y1 := Lib.hid (y1.out.below HB.out (by omega))
    replace y2 := Lib.hid (y2.out.below HB.out (by omega))
    replace y3 := Lib.hid (y3.out.below HB.out (by omega))
    replace By := Lib.hid (By.out.below HB.out (by omega))
    replace EB := Lib.hid (below_step HB.out EB.out (by omega))
    clear HB
    by_cases hs0 : st = 0
    · subst hs0
      by_cases hq9 : (900 : Int) < Q
      · have vxl := Bx.out.lt
        have vx0 := (Bx.out.2 0 _ rfl).1
        have vx1 := (Bx.out.2 1 _ rfl).1
        have vx2 := (Bx.out.2 2 _ rfl).1
        have vx3 := (Bx.out.2 3 _ rfl).1
        have vx4 := (Bx.out.2 4 _ rfl).1
        have vx5 := (Bx.out.2 5 _ rfl).1
        go_wp2_with fail
        go_wp2
        go_ret
        exact ⟨rfl, EB.out⟩
      · obtain ⟨P2, R2, hsm⟩ := SM.out rfl (by omega)
        have S2 := Lib.hid hsm
        clear hsm SM
        have hmx : mx ≤ 16 := by rw [x3.out.len]; exact R1L.out
        have hnx : nx ≤ 61 := by have h1 := x1.out.len; have h2 := d1.out.len; omega
        have hnx' : nx' ≤ 61 := by have h1 := x2.out.len; have h2 := d2.out.len; omega
        have vxl := Bx.out.lt
        have vx0 := (Bx.out.2 0 _ rfl).1
        have vx1 := (Bx.out.2 1 _ rfl).1
        have vx2 := (Bx.out.2 2 _ rfl).1
        have vx3 := (Bx.out.2 3 _ rfl).1
        have vx4 := (Bx.out.2 4 _ rfl).1
        have vx5 := (Bx.out.2 5 _ rfl).1
        go_wp2_with fail
        refine (to_rli (ReadSome_x x1.out x2.out x3.out (by omega) (by omega) (by omega) hcx hcx' hkx (by omega) (by omega) (by omega) (by unfold okInt; omega)) S2.out).mono ?_
        clear vxl vx0 vx1 vx2 vx3 vx4 vx5
        rintro e w9 ⟨Av, nv, cv, Av', nv', cv', Ev, mv, kv, Ak, nk, ck, rfl, ⟨hcv, hcv', hkv, hck⟩, hb, hd, hd', hr, hl⟩
        (try simp only [World.size_alloc, World.size_setCell, World.size_drew] at hb)
        have HB := Lib.hid hb
        clear hb
        have s9 := HB.out.size
        (try simp only [World.size_alloc, World.size_setCell, World.size_drew] at s9)
        replace d1 := Lib.hid (d1.out.below HB.out (by omega))
        replace d2 := Lib.hid (d2.out.below HB.out (by omega))
        replace d3 := Lib.hid (d3.out.below HB.out (by omega))
        replace Bd := Lib.hid (Bd.out.below HB.out (by omega))
        replace l1 := Lib.hid (l1.out.below HB.out (by omega))
        replace x1 := Lib.hid (x1.out.below HB.out (by omega))
        replace x2 := Lib.hid (x2.out.below HB.out (by omega))
        replace x3 := Lib.hid (x3.out.below HB.out (by omega))
        replace Bx := Lib.hid (Bx.out.below HB.out (by omega))
        replace m1 := Lib.hid (m1.out.below HB.out (by omega))
        replace y1 := Lib.hid (y1.out.below HB.out (by omega))
        replace y2 := Lib.hid (y2.out.below HB.out (by omega))
        replace y3 := Lib.hid (y3.out.below HB.out (by omega))
        replace By := Lib.hid (By.out.below HB.out (by omega))
        replace EB := Lib.hid (below_step HB.out EB.out (by omega))
        clear HB
        have k1 := Lib.hid hl
        have v1 := Lib.hid hd
        have v2 := Lib.hid hd'
        have v3 := Lib.hid hr
        clear hd hd' hr hl
        have vxl := Bx.out.lt
        have vx0 := (Bx.out.2 0 _ rfl).1
        have vx1 := (Bx.out.2 1 _ rfl).1
        have vx2 := (Bx.out.2 2 _ rfl).1
        have vx3 := (Bx.out.2 3 _ rfl).1
        have vx4 := (Bx.out.2 4 _ rfl).1
        have vx5 := (Bx.out.2 5 _ rfl).1
        go_wp2_with fail
        clear vxl vx0 vx1 vx2 vx3 vx4 vx5
        replace d1 := Lib.hid (d1.out.alloc (by omega) (.cells #[.slice Av nv cv, .int .i64 (P2), .slice Av' nv' cv', .int .i64 (Q), .slice Ev mv kv, .int .i64 (yd)] 27))
        replace d2 := Lib.hid (d2.out.alloc (by omega) (.cells #[.slice Av nv cv, .int .i64 (P2), .slice Av' nv' cv', .int .i64 (Q), .slice Ev mv kv, .int .i64 (yd)] 27))
        replace d3 := Lib.hid (d3.out.alloc (by omega) (.cells #[.slice Av nv cv, .int .i64 (P2), .slice Av' nv' cv', .int .i64 (Q), .slice Ev mv kv, .int .i64 (yd)] 27))
        replace Bd := Lib.hid (Bd.out.alloc (.cells #[.slice Av nv cv, .int .i64 (P2), .slice Av' nv' cv', .int .i64 (Q), .slice Ev mv kv, .int .i64 (yd)] 27))
        replace l1 := Lib.hid (l1.out.alloc (by omega) (.cells #[.slice Av nv cv, .int .i64 (P2), .slice Av' nv' cv', .int .i64 (Q), .slice Ev mv kv, .int .i64 (yd)] 27))
        replace x1 := Lib.hid (x1.out.alloc (by omega) (.cells #[.slice Av nv cv, .int .i64 (P2), .slice Av' nv' cv', .int .i64 (Q), .slice Ev mv kv, .int .i64 (yd)] 27))
        replace x2 := Lib.hid (x2.out.alloc (by omega) (.cells #[.slice Av nv cv, .int .i64 (P2), .slice Av' nv' cv', .int .i64 (Q), .slice Ev mv kv, .int .i64 (yd)] 27))
        replace x3 := Lib.hid (x3.out.alloc (by omega) (.cells #[.slice Av nv cv, .int .i64 (P2), .slice Av' nv' cv', .int .i64 (Q), .slice Ev mv kv, .int .i64 (yd)] 27))
        replace Bx := Lib.hid (Bx.out.alloc (.cells #[.slice Av nv cv, .int .i64 (P2), .slice Av' nv' cv', .int .i64 (Q), .slice Ev mv kv, .int .i64 (yd)] 27))
        replace m1 := Lib.hid (m1.out.alloc (by omega) (.cells #[.slice Av nv cv, .int .i64 (P2), .slice Av' nv' cv', .int .i64 (Q), .slice Ev mv kv, .int .i64 (yd)] 27))
        replace y1 := Lib.hid (y1.out.alloc (by omega) (.cells #[.slice Av nv cv, .int .i64 (P2), .slice Av' nv' cv', .int .i64 (Q), .slice Ev mv kv, .int .i64 (yd)] 27))
        replace y2 := Lib.hid (y2.out.alloc (by omega) (.cells #[.slice Av nv cv, .int .i64 (P2), .slice Av' nv' cv', .int .i64 (Q), .slice Ev mv kv, .int .i64 (yd)] 27))
        replace y3 := Lib.hid (y3.out.alloc (by omega) (.cells #[.slice Av nv cv, .int .i64 (P2), .slice Av' nv' cv', .int .i64 (Q), .slice Ev mv kv, .int .i64 (yd)] 27))
        replace By := Lib.hid (By.out.alloc (.cells #[.slice Av nv cv, .int .i64 (P2), .slice Av' nv' cv', .int .i64 (Q), .slice Ev mv kv, .int .i64 (yd)] 27))
        replace k1 := Lib.hid (k1.out.alloc (by omega) (.cells #[.slice Av nv cv, .int .i64 (P2), .slice Av' nv' cv', .int .i64 (Q), .slice Ev mv kv, .int .i64 (yd)] 27))
        replace v1 := Lib.hid (v1.out.alloc (by omega) (.cells #[.slice Av nv cv, .int .i64 (P2), .slice Av' nv' cv', .int .i64 (Q), .slice Ev mv kv, .int .i64 (yd)] 27))
        replace v2 := Lib.hid (v2.out.alloc (by omega) (.cells #[.slice Av nv cv, .int .i64 (P2), .slice Av' nv' cv', .int .i64 (Q), .slice Ev mv kv, .int .i64 (yd)] 27))
        replace v3 := Lib.hid (v3.out.alloc (by omega) (.cells #[.slice Av nv cv, .int .i64 (P2), .slice Av' nv' cv', .int .i64 (Q), .slice Ev mv kv, .int .i64 (yd)] 27))
        replace EB := Lib.hid (EB.out.alloc (by omega) (.cells #[.slice Av nv cv, .int .i64 (P2), .slice Av' nv' cv', .int .i64 (Q), .slice Ev mv kv, .int .i64 (yd)] 27))
        have Bv := Lib.hid (Box.new w9 27 [.slice Av nv cv, .int .i64 (P2), .slice Av' nv' cv', .int .i64 (Q), .slice Ev mv kv, .int .i64 (yd)])
        have s10 : w9.heap.size + 1 ≤ (w9.alloc (.cells #[.slice Av nv cv, .int .i64 (P2), .slice Av' nv' cv', .int .i64 (Q), .slice Ev mv kv, .int .i64 (yd)] 27)).heap.size := by simp
        generalize w9.alloc (.cells #[.slice Av nv cv, .int .i64 (P2), .slice Av' nv' cv', .int .i64 (Q), .slice Ev mv kv, .int .i64 (yd)] 27) = w10 at *
        refine (equalInts_same k1.out l1.out rfl).mono ?_
        rintro e w11 ⟨rfl, hb⟩
        (try simp only [World.size_alloc, World.size_setCell, World.size_drew] at hb)
        have HB := Lib.hid hb
        clear hb
        have s11 := HB.out.size
        (try simp only [World.size_alloc, World.size_setCell, World.size_drew] at s11)
        replace d1 := Lib.hid (d1.out.below HB.out (by omega))
        replace d2 := Lib.hid (d2.out.below HB.out (by omega))
        replace d3 := Lib.hid (d3.out.below HB.out (by omega))
        replace Bd := Lib.hid (Bd.out.below HB.out (by omega))
        replace l1 := Lib.hid (l1.out.below HB.out (by omega))
        replace x1 := Lib.hid (x1.out.below HB.out (by omega))
        replace x2 := Lib.hid (x2.out.below HB.out (by omega))
        replace x3 := Lib.hid (x3.out.below HB.out (by omega))
        replace Bx := Lib.hid (Bx.out.below HB.out (by omega))
        replace m1 := Lib.hid (m1.out.below HB.out (by omega))
        replace y1 := Lib.hid (y1.out.below HB.out (by omega))
        replace y2 := Lib.hid (y2.out.below HB.out (by omega))
        replace y3 := Lib.hid (y3.out.below HB.out (by omega))
        replace By := Lib.hid (By.out.below HB.out (by omega))
        replace k1 := Lib.hid (k1.out.below HB.out (by omega))
        replace v1 := Lib.hid (v1.out.below HB.out (by omega))
        replace v2 := Lib.hid (v2.out.below HB.out (by omega))
        replace v3 := Lib.hid (v3.out.below HB.out (by omega))
        replace Bv := Lib.hid (Bv.out.below HB.out (by omega))
        replace EB := Lib.hid (below_step HB.out EB.out (by omega))
        clear HB
        have vxl := Bx.out.lt
        have vx0 := (Bx.out.2 0 _ rfl).1
        have vx1 := (Bx.out.2 1 _ rfl).1
        have vx2 := (Bx.out.2 2 _ rfl).1
        have vx3 := (Bx.out.2 3 _ rfl).1
        have vx4 := (Bx.out.2 4 _ rfl).1
        have vx5 := (Bx.out.2 5 _ rfl).1
        have vvl := Bv.out.lt
        have vv0 := (Bv.out.2 0 _ rfl).1
        have vv1 := (Bv.out.2 1 _ rfl).1
        have vv2 := (Bv.out.2 2 _ rfl).1
        have vv3 := (Bv.out.2 3 _ rfl).1
        have vv4 := (Bv.out.2 4 _ rfl).1
        have vv5 := (Bv.out.2 5 _ rfl).1
        go_wp2
        go_ret
        exact ⟨rfl, EB.out⟩
    · have vxl := Bx.out.lt
      have vx0 := (Bx.out.2 0 _ rfl).1
      have vx1 := (Bx.out.2 1 _ rfl).1
      have vx2 := (Bx.out.2 2 _ rfl).1
      have vx3 := (Bx.out.2 3 _ rfl).1
      have vx4 := (Bx.out.2 4 _ rfl).1
      have vx5 := (Bx.out.2 5 _ rfl).1
      go_wp2_with fail
      go_wp2
      go_ret
      exact ⟨rfl, EB.out⟩

theorem contract (H : Type) (enc : TypeId × Value → H) (W : World) (base : Nat) (args : Array Value) (ds gs : List (DataW H)) (before : List MemPlace)
    (hval : ∀ (j : Nat) t v, Try.f10.params[j]? = some t → args[j]? = some v → Value.okWide Try.prog W .any base t v)
    (hW : DataW.Whole enc Try.prog Try.f10.params.toList Rows.fnPeekReaderReadSpec.vars false W args.toList ds gs before) :
    Calls Try.prog 10 args W fun e W' => ∃ v, e = .returned v ∧ Rows.fnPeekReaderReadSpec.post enc Try.prog Try.f10 false true false false W args v W' := by
  have hW' := hW
  have hlt : ∀ p ∈ before, p.block < W.heap.size := fun p hp => hW.lt p hp
  obtain ⟨p, q, hA0, hV, rfl, hfz, hnd⟩ := hW
  have hA : DataW.TrodAll enc Try.prog W 0 (fun _ => true) true Try.f10.params.toList args.toList ds p := hA0
  rw [Try.params10] at hA hval
  obtain ⟨v0, vs0, d0, ds0, p0, q0, hargs, rfl, rfl, h0, r0⟩ := trodAll_cons hA
  obtain ⟨rfl, rfl, rfl⟩ := trodAll_nil r0
  obtain rfl : args = #[v0] := by cases args; simp_all
  obtain ⟨rfl, rfl⟩ := trodVars_none hV
  obtain ⟨A, n, c, rfl, hnc, hby, hmx⟩ := arg_bytes (hval 0 _ v0 rfl rfl) h0 (fun p hp => hlt p (by simp [hp]))
  refine (walk A n c W hby hnc hmx).mono fun e W' hh => ?_
  obtain ⟨rfl, hb⟩ := hh
  exact ⟨_, rfl, law_post laidOut (tys_of (by rw [Try.params10]; kernel_rfl)) hW' rfl rfl rfl Try.underlying4 hb⟩

set_option maxRecDepth 100000 in
theorem lifted (os : Os) (started : os.Started) (H : Type) (enc : TypeId × Value → H) :
    ReturnsInHanded {} Try.checked os 10 .any (Rows.fnPeekReaderReadSpec.pre6 enc Try.prog Try.f10 Rows.fnPeekReaderReadRow.domain false) (Rows.fnPeekReaderReadSpec.post enc Try.prog Try.f10 false true false false) := by
  refine returnsInHanded_of_change (C := Try.checked) own started (by kernel_rfl) Try.func10
    (ChangeSpec.witness6 (C := Try.checked) false ⟨#[], #[.slice none 0 0], []⟩ 8 (by kernel_rfl) (by kernel_rfl) (by kernel_rfl) (by kernel_rfl)) ?_
  intro W base args ds gs before hval hW _ _
  exact contract H enc W base args ds gs before hval hW

theorem holds : Rows.FnPeekReaderReadSaid :=
  OpenClaim.holds_of_wide 10 Try.f10 rfl rfl rfl rfl rfl rfl rfl ⟨rfl, rfl, rfl, rfl, rfl⟩ rfl rfl rfl rfl rfl (by kernel_rfl) Try.func10 (by kernel_rfl)
    (of_decide_eq_true (by kernel_rfl)) (by unfold Func.isWrapper; first | (rw [if_pos (by decide +kernel)]; kernel_rfl) | (rw [if_neg (by decide +kernel)]; exact ⟨rfl, rfl⟩))
    (fun os started H enc _ => lifted os started H enc)
end LawPeekReaderRead
end Go.Proofs.Ytbgbkemamipomaa
