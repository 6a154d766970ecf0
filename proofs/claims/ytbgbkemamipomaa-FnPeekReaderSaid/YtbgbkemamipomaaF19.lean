/- The law of promise 19: a look ahead changes no place and nothing that is ahead, and shows its first bytes. No conditions. -/
import Derived.Test.YtbgbkemamipomaaH1
import Derived.Test.YtbgbkemamipomaaH3
import Derived.Test.YtbgbkemamipomaaS2g
set_option maxRecDepth 10000
namespace Go.Proofs.Ytbgbkemamipomaa
open Go.ChangeShapes Go.WideShapes Go.ChangeAt Go.RowKit
set_option linter.unusedSimpArgs false
set_option linter.unusedVariables false
namespace LawPeekReader
set_option maxHeartbeats 8000000 in
theorem walk (A : Option Addr) (n c : Nat) (w : World) (h : BytesIn w w.heap.size A n) (hnc : n ≤ c) (hm : n ≤ 9223372036854775807) :
    Calls Try.prog 9 #[.slice A n c] w (BoolB true w) := by
  have HBY := Lib.hid h
  clear h
  have EB := Lib.hid (Below.refl w.heap.size w)
  by_cases hbig : (1048576 : Int) < (n : Int)
  · go_enter Try.func9, Try.ntmps9
    go_wp2
    go_ret
    exact ⟨rfl, Below.refl _ _⟩
  go_enter Try.func9, Try.ntmps9
  go_wp2_with fail
  refine (DrawPeekReader_any HBY.out (by omega) hnc).mono ?_
  rintro e w1 ⟨Ad, nd, cd, Ad', nd', cd', Ed, md, kd, Dd, Sd, Rd, pd, qd, yd, zn, rfl, ⟨⟨hcd, hcd', hkd⟩, ⟨hnd, hnd', hmd⟩, hpd, hqd, hyd, hb, hd, hd', hr⟩, hzn⟩
  (try simp only [World.size_alloc, World.size_setCell, World.size_drew] at hb)
  have HB := Lib.hid hb
  clear hb
  have s1 := HB.out.size
  (try simp only [World.size_alloc, World.size_setCell, World.size_drew] at s1)
  replace EB := Lib.hid (below_step HB.out EB.out (by omega))
  clear HB
  clear HBY
  have d1 := Lib.hid hd
  have d2 := Lib.hid hd'
  have d3 := Lib.hid hr
  clear hd hd' hr
  go_wp2_with fail
  replace d1 := Lib.hid (d1.out.alloc (by omega) (.cells #[.slice Ad nd cd, .int .i64 (pd), .slice Ad' nd' cd', .int .i64 (qd), .slice Ed md kd, .int .i64 (yd)] 27))
  replace d2 := Lib.hid (d2.out.alloc (by omega) (.cells #[.slice Ad nd cd, .int .i64 (pd), .slice Ad' nd' cd', .int .i64 (qd), .slice Ed md kd, .int .i64 (yd)] 27))
  replace d3 := Lib.hid (d3.out.alloc (by omega) (.cells #[.slice Ad nd cd, .int .i64 (pd), .slice Ad' nd' cd', .int .i64 (qd), .slice Ed md kd, .int .i64 (yd)] 27))
  replace EB := Lib.hid (EB.out.alloc (by omega) (.cells #[.slice Ad nd cd, .int .i64 (pd), .slice Ad' nd' cd', .int .i64 (qd), .slice Ed md kd, .int .i64 (yd)] 27))
  have Bd := Lib.hid (Box.new w1 27 [.slice Ad nd cd, .int .i64 (pd), .slice Ad' nd' cd', .int .i64 (qd), .slice Ed md kd, .int .i64 (yd)])
  have s2 : w1.heap.size + 1 ≤ (w1.alloc (.cells #[.slice Ad nd cd, .int .i64 (pd), .slice Ad' nd' cd', .int .i64 (qd), .slice Ed md kd, .int .i64 (yd)] 27)).heap.size := by simp
  generalize w1.alloc (.cells #[.slice Ad nd cd, .int .i64 (pd), .slice Ad' nd' cd', .int .i64 (qd), .slice Ed md kd, .int .i64 (yd)] 27) = w2 at *
  cases hg : (goodR Dd pd Sd qd Rd yd && inB zn 1 60)
  · refine (to_rli (PeekReader_x d1.out d2.out d3.out (by omega) (by omega) (by omega) hcd hcd' hkd (by omega) (by omega) (by omega) (by unfold okInt; omega)) (rpeek_no hg)).mono ?_
    rintro e w3 ⟨Ax, nx, cx, Ax', nx', cx', Ex, mx, kx, Al, nl, cl, rfl, ⟨hcx, hcx', hkx, hcl⟩, hb, hd, hd', hr, hl⟩
    (try simp only [World.size_alloc, World.size_setCell, World.size_drew] at hb)
    have HB := Lib.hid hb
    clear hb
    have s3 := HB.out.size
    (try simp only [World.size_alloc, World.size_setCell, World.size_drew] at s3)
    replace d1 := Lib.hid (d1.out.below HB.out (by omega))
    replace d2 := Lib.hid (d2.out.below HB.out (by omega))
    replace d3 := Lib.hid (d3.out.below HB.out (by omega))
    replace Bd := Lib.hid (Bd.out.below HB.out (by omega))
    replace EB := Lib.hid (below_step HB.out EB.out (by omega))
    clear HB
    have l1 := Lib.hid hl
    have x1 := Lib.hid hd
    have x2 := Lib.hid hd'
    have x3 := Lib.hid hr
    clear hd hd' hr hl
    have vdl := Bd.out.lt
    have vd0 := (Bd.out.2 0 _ rfl).1
    have vd1 := (Bd.out.2 1 _ rfl).1
    have vd2 := (Bd.out.2 2 _ rfl).1
    have vd3 := (Bd.out.2 3 _ rfl).1
    have vd4 := (Bd.out.2 4 _ rfl).1
    have vd5 := (Bd.out.2 5 _ rfl).1
    go_wp2_with fail
    clear vdl vd0 vd1 vd2 vd3 vd4 vd5
    replace d1 := Lib.hid (d1.out.alloc (by omega) (.cells #[.slice Ax nx cx, .int .i64 (0), .slice Ax' nx' cx', .int .i64 (0), .slice Ex mx kx, .int .i64 (0)] 27))
    replace d2 := Lib.hid (d2.out.alloc (by omega) (.cells #[.slice Ax nx cx, .int .i64 (0), .slice Ax' nx' cx', .int .i64 (0), .slice Ex mx kx, .int .i64 (0)] 27))
    replace d3 := Lib.hid (d3.out.alloc (by omega) (.cells #[.slice Ax nx cx, .int .i64 (0), .slice Ax' nx' cx', .int .i64 (0), .slice Ex mx kx, .int .i64 (0)] 27))
    replace Bd := Lib.hid (Bd.out.alloc (.cells #[.slice Ax nx cx, .int .i64 (0), .slice Ax' nx' cx', .int .i64 (0), .slice Ex mx kx, .int .i64 (0)] 27))
    replace l1 := Lib.hid (l1.out.alloc (by omega) (.cells #[.slice Ax nx cx, .int .i64 (0), .slice Ax' nx' cx', .int .i64 (0), .slice Ex mx kx, .int .i64 (0)] 27))
    replace x1 := Lib.hid (x1.out.alloc (by omega) (.cells #[.slice Ax nx cx, .int .i64 (0), .slice Ax' nx' cx', .int .i64 (0), .slice Ex mx kx, .int .i64 (0)] 27))
    replace x2 := Lib.hid (x2.out.alloc (by omega) (.cells #[.slice Ax nx cx, .int .i64 (0), .slice Ax' nx' cx', .int .i64 (0), .slice Ex mx kx, .int .i64 (0)] 27))
    replace x3 := Lib.hid (x3.out.alloc (by omega) (.cells #[.slice Ax nx cx, .int .i64 (0), .slice Ax' nx' cx', .int .i64 (0), .slice Ex mx kx, .int .i64 (0)] 27))
    replace EB := Lib.hid (EB.out.alloc (by omega) (.cells #[.slice Ax nx cx, .int .i64 (0), .slice Ax' nx' cx', .int .i64 (0), .slice Ex mx kx, .int .i64 (0)] 27))
    have Bx := Lib.hid (Box.new w3 27 [.slice Ax nx cx, .int .i64 (0), .slice Ax' nx' cx', .int .i64 (0), .slice Ex mx kx, .int .i64 (0)])
    have s4 : w3.heap.size + 1 ≤ (w3.alloc (.cells #[.slice Ax nx cx, .int .i64 (0), .slice Ax' nx' cx', .int .i64 (0), .slice Ex mx kx, .int .i64 (0)] 27)).heap.size := by simp
    generalize w3.alloc (.cells #[.slice Ax nx cx, .int .i64 (0), .slice Ax' nx' cx', .int .i64 (0), .slice Ex mx kx, .int .i64 (0)] 27) = w4 at *
    refine (to_rli (SPeekReader_x d1.out d2.out d3.out (by omega) (by omega) (by omega) hcd hcd' hkd (by omega) (by omega) (by omega) (by unfold okInt; omega)) (rpeek_no hg)).mono ?_
    rintro e w5 ⟨Ay, ny, cy, Ay', ny', cy', Ey, my, ky, Am, nm, cm, rfl, ⟨hcy, hcy', hky, hcm⟩, hb, hd, hd', hr, hl⟩
    (try simp only [World.size_alloc, World.size_setCell, World.size_drew] at hb)
    have HB := Lib.hid hb
    clear hb
    have s5 := HB.out.size
    (try simp only [World.size_alloc, World.size_setCell, World.size_drew] at s5)
    replace d1 := Lib.hid (d1.out.below HB.out (by omega))
    replace d2 := Lib.hid (d2.out.below HB.out (by omega))
    replace d3 := Lib.hid (d3.out.below HB.out (by omega))
    replace Bd := Lib.hid (Bd.out.below HB.out (by omega))
    replace l1 := Lib.hid (l1.out.below HB.out (by omega))
    replace x1 := Lib.hid (x1.out.below HB.out (by omega))
    replace x2 := Lib.hid (x2.out.below HB.out (by omega))
    replace x3 := Lib.hid (x3.out.below HB.out (by omega))
    replace Bx := Lib.hid (Bx.out.below HB.out (by omega))
    replace EB := Lib.hid (below_step HB.out EB.out (by omega))
    clear HB
    have m1 := Lib.hid hl
    have y1 := Lib.hid hd
    have y2 := Lib.hid hd'
    have y3 := Lib.hid hr
    clear hd hd' hr hl
    have vxl := Bx.out.lt
    have vx0 := (Bx.out.2 0 _ rfl).1
    have vx1 := (Bx.out.2 1 _ rfl).1
    have vx2 := (Bx.out.2 2 _ rfl).1
    have vx3 := (Bx.out.2 3 _ rfl).1
    have vx4 := (Bx.out.2 4 _ rfl).1
    have vx5 := (Bx.out.2 5 _ rfl).1
    go_wp2_with fail
    clear vxl vx0 vx1 vx2 vx3 vx4 vx5
    replace d1 := Lib.hid (d1.out.alloc (by omega) (.cells #[.slice Ay ny cy, .int .i64 (0), .slice Ay' ny' cy', .int .i64 (0), .slice Ey my ky, .int .i64 (0)] 27))
    replace d2 := Lib.hid (d2.out.alloc (by omega) (.cells #[.slice Ay ny cy, .int .i64 (0), .slice Ay' ny' cy', .int .i64 (0), .slice Ey my ky, .int .i64 (0)] 27))
    replace d3 := Lib.hid (d3.out.alloc (by omega) (.cells #[.slice Ay ny cy, .int .i64 (0), .slice Ay' ny' cy', .int .i64 (0), .slice Ey my ky, .int .i64 (0)] 27))
    replace Bd := Lib.hid (Bd.out.alloc (.cells #[.slice Ay ny cy, .int .i64 (0), .slice Ay' ny' cy', .int .i64 (0), .slice Ey my ky, .int .i64 (0)] 27))
    replace l1 := Lib.hid (l1.out.alloc (by omega) (.cells #[.slice Ay ny cy, .int .i64 (0), .slice Ay' ny' cy', .int .i64 (0), .slice Ey my ky, .int .i64 (0)] 27))
    replace x1 := Lib.hid (x1.out.alloc (by omega) (.cells #[.slice Ay ny cy, .int .i64 (0), .slice Ay' ny' cy', .int .i64 (0), .slice Ey my ky, .int .i64 (0)] 27))
    replace x2 := Lib.hid (x2.out.alloc (by omega) (.cells #[.slice Ay ny cy, .int .i64 (0), .slice Ay' ny' cy', .int .i64 (0), .slice Ey my ky, .int .i64 (0)] 27))
    replace x3 := Lib.hid (x3.out.alloc (by omega) (.cells #[.slice Ay ny cy, .int .i64 (0), .slice Ay' ny' cy', .int .i64 (0), .slice Ey my ky, .int .i64 (0)] 27))
    replace Bx := Lib.hid (Bx.out.alloc (.cells #[.slice Ay ny cy, .int .i64 (0), .slice Ay' ny' cy', .int .i64 (0), .slice Ey my ky, .int .i64 (0)] 27))
    replace m1 := Lib.hid (m1.out.alloc (by omega) (.cells #[.slice Ay ny cy, .int .i64 (0), .slice Ay' ny' cy', .int .i64 (0), .slice Ey my ky, .int .i64 (0)] 27))
    replace y1 := Lib.hid (y1.out.alloc (by omega) (.cells #[.slice Ay ny cy, .int .i64 (0), .slice Ay' ny' cy', .int .i64 (0), .slice Ey my ky, .int .i64 (0)] 27))
    replace y2 := Lib.hid (y2.out.alloc (by omega) (.cells #[.slice Ay ny cy, .int .i64 (0), .slice Ay' ny' cy', .int .i64 (0), .slice Ey my ky, .int .i64 (0)] 27))
    replace y3 := Lib.hid (y3.out.alloc (by omega) (.cells #[.slice Ay ny cy, .int .i64 (0), .slice Ay' ny' cy', .int .i64 (0), .slice Ey my ky, .int .i64 (0)] 27))
    replace EB := Lib.hid (EB.out.alloc (by omega) (.cells #[.slice Ay ny cy, .int .i64 (0), .slice Ay' ny' cy', .int .i64 (0), .slice Ey my ky, .int .i64 (0)] 27))
    have By := Lib.hid (Box.new w5 27 [.slice Ay ny cy, .int .i64 (0), .slice Ay' ny' cy', .int .i64 (0), .slice Ey my ky, .int .i64 (0)])
    have s6 : w5.heap.size + 1 ≤ (w5.alloc (.cells #[.slice Ay ny cy, .int .i64 (0), .slice Ay' ny' cy', .int .i64 (0), .slice Ey my ky, .int .i64 (0)] 27)).heap.size := by simp
    generalize w5.alloc (.cells #[.slice Ay ny cy, .int .i64 (0), .slice Ay' ny' cy', .int .i64 (0), .slice Ey my ky, .int .i64 (0)] 27) = w6 at *
    refine (equalReader_same x1.out x2.out x3.out y1.out y2.out y3.out (by omega) (by omega) (by omega) (by omega) (by omega) (by omega)).mono ?_
    rintro e w7 ⟨rfl, hb⟩
    (try simp only [World.size_alloc, World.size_setCell, World.size_drew] at hb)
    have HB := Lib.hid hb
    clear hb
    have s7 := HB.out.size
    (try simp only [World.size_alloc, World.size_setCell, World.size_drew] at s7)
    replace d1 := Lib.hid (d1.out.below HB.out (by omega))
    replace d2 := Lib.hid (d2.out.below HB.out (by omega))
    replace d3 := Lib.hid (d3.out.below HB.out (by omega))
    replace Bd := Lib.hid (Bd.out.below HB.out (by omega))
    replace l1 := Lib.hid (l1.out.below HB.out (by omega))
    replace x1 := Lib.hid (x1.out.below HB.out (by omega))
    replace x2 := Lib.hid (x2.out.below HB.out (by omega))
    replace x3 := Lib.hid (x3.out.below HB.out (by omega))
    replace Bx := Lib.hid (Bx.out.below HB.out (by omega))
    replace m1 := Lib.hid (m1.out.below HB.out (by omega))
    replace y1 := Lib.hid (y1.out.below HB.out (by omega))
    replace y2 := Lib.hid (y2.out.below HB.out (by omega))
    replace y3 := Lib.hid (y3.out.below HB.out (by omega))
    replace By := Lib.hid (By.out.below HB.out (by omega))
    replace EB := Lib.hid (below_step HB.out EB.out (by omega))
    clear HB
    go_wp2_with fail
    refine (equalInts_same l1.out m1.out rfl).mono ?_
    rintro e w8 ⟨rfl, hb⟩
    (try simp only [World.size_alloc, World.size_setCell, World.size_drew] at hb)
    have HB := Lib.hid hb
    clear hb
    have s8 := HB.out.size
    (try simp only [World.size_alloc, World.size_setCell, World.size_drew] at s8)
    replace d1 := Lib.hid (d1.out.below HB.out (by omega))
    replace d2 := Lib.hid (d2.out.below HB.out (by omega))
    replace d3 := Lib.hid (d3.out.below HB.out (by omega))
    replace Bd := Lib.hid (Bd.out.below HB.out (by omega))
    replace l1 := Lib.hid (l1.out.below HB.out (by omega))
    replace x1 := Lib.hid (x1.out.below HB.out (by omega))
    replace x2 := Lib.hid (x2.out.below HB.out (by omega))
    replace x3 := Lib.hid (x3.out.below HB.out (by omega))
    replace Bx := Lib.hid (Bx.out.below HB.out (by omega))
    replace m1 := Lib.hid (m1.out.below HB.out (by omega))
    replace y1 := Lib.hid (y1.out.below HB.out (by omega))
    replace y2 := Lib.hid (y2.out.below HB.out (by omega))
    replace y3 := Lib.hid (y3.out.below HB.out (by omega))
    replace By := Lib.hid (By.out.below HB.out (by omega))
    replace EB := Lib.hid (below_step HB.out EB.out (by omega))
    clear HB
    have vxl := Bx.out.lt
    have vx0 := (Bx.out.2 0 _ rfl).1
    have vx1 := (Bx.out.2 1 _ rfl).1
    have vx2 := (Bx.out.2 2 _ rfl).1
    have vx3 := (Bx.out.2 3 _ rfl).1
    have vx4 := (Bx.out.2 4 _ rfl).1
    have vx5 := (Bx.out.2 5 _ rfl).1
    have vyl := By.out.lt
    have vy0 := (By.out.2 0 _ rfl).1
    have vy1 := (By.out.2 1 _ rfl).1
    have vy2 := (By.out.2 2 _ rfl).1
    have vy3 := (By.out.2 3 _ rfl).1
    have vy4 := (By.out.2 4 _ rfl).1
    have vy5 := (By.out.2 5 _ rfl).1
    go_wp2_with fail
    refine (equalReader_same x1.out x2.out x3.out y1.out y2.out y3.out (by omega) (by omega) (by omega) (by omega) (by omega) (by omega)).mono ?_
    clear vxl vx0 vx1 vx2 vx3 vx4 vx5 vyl vy0 vy1 vy2 vy3 vy4 vy5
    rintro e w9 ⟨rfl, hb⟩
    (try simp only [World.size_alloc, World.size_setCell, World.size_drew] at hb)
    have HB := Lib.hid hb
    clear hb
    have s9 := HB.out.size
    (try simp only [World.size_alloc, World.size_setCell, World.size_drew] at s9)
    replace d1 := Lib.hid (d1.out.below HB.out (by omega))
    replace d2 := Lib.hid (d2.out.below HB.out (by omega))
    replace d3 := Lib.hid (d3.out.below HB.out (by omega))
    replace Bd := Lib.hid (Bd.out.below HB.out (by omega))
    replace l1 := Lib.hid (l1.out.below HB.out (by omega))
    replace x1 := Lib.hid (x1.out.below HB.out (by omega))
    replace x2 := Lib.hid (x2.out.below HB.out (by omega))
    replace x3 := Lib.hid (x3.out.below HB.out (by omega))
    replace Bx := Lib.hid (Bx.out.below HB.out (by omega))
    replace m1 := Lib.hid (m1.out.below HB.out (by omega))
    replace y1 := Lib.hid (y1.out.below HB.out (by omega))
    replace y2 := Lib.hid (y2.out.below HB.out (by omega))
    replace y3 := Lib.hid (y3.out.below HB.out (by omega))
    replace By := Lib.hid (By.out.below HB.out (by omega))
    replace EB := Lib.hid (below_step HB.out EB.out (by omega))
    clear HB
    go_wp2_with fail
    refine (equalInts_same l1.out m1.out rfl).mono ?_
    rintro e w10 ⟨rfl, hb⟩
    (try simp only [World.size_alloc, World.size_setCell, World.size_drew] at hb)
    have HB := Lib.hid hb
    clear hb
    have s10 := HB.out.size
    (try simp only [World.size_alloc, World.size_setCell, World.size_drew] at s10)
    replace d1 := Lib.hid (d1.out.below HB.out (by omega))
    replace d2 := Lib.hid (d2.out.below HB.out (by omega))
    replace d3 := Lib.hid (d3.out.below HB.out (by omega))
    replace Bd := Lib.hid (Bd.out.below HB.out (by omega))
    replace l1 := Lib.hid (l1.out.below HB.out (by omega))
    replace x1 := Lib.hid (x1.out.below HB.out (by omega))
    replace x2 := Lib.hid (x2.out.below HB.out (by omega))
    replace x3 := Lib.hid (x3.out.below HB.out (by omega))
    replace Bx := Lib.hid (Bx.out.below HB.out (by omega))
    replace m1 := Lib.hid (m1.out.below HB.out (by omega))
    replace y1 := Lib.hid (y1.out.below HB.out (by omega))
    replace y2 := Lib.hid (y2.out.below HB.out (by omega))
    replace y3 := Lib.hid (y3.out.below HB.out (by omega))
    replace By := Lib.hid (By.out.below HB.out (by omega))
    replace EB := Lib.hid (below_step HB.out EB.out (by omega))
    clear HB
    go_wp2
    go_ret
    exact ⟨rfl, EB.out⟩
  · obtain ⟨t, P, Q, R1, L, st, ho, hs5, htd, had, ⟨hvx, htx, hax, hr1⟩, hbe, hln, hsm⟩ := rpeek_yes hg
    clear hg
    have HO := Lib.hid ho
    have TD := Lib.hid htd
    have AD := Lib.hid had
    have VX := Lib.hid hvx
    have TX := Lib.hid htx
    have AX := Lib.hid hax
    have R1L := Lib.hid hr1
    have BE := Lib.hid hbe
    have LN := Lib.hid hln
    have SM := Lib.hid hsm
    clear ho htd had hvx htx hax hr1 hbe hln hsm
    refine (to_rli (PeekReader_x d1.out d2.out d3.out (by omega) (by omega) (by omega) hcd hcd' hkd (by omega) (by omega) (by omega) (by unfold okInt; omega)) HO.out).mono ?_
    rintro e w3 ⟨Ax, nx, cx, Ax', nx', cx', Ex, mx, kx, Al, nl, cl, rfl, ⟨hcx, hcx', hkx, hcl⟩, hb, hd, hd', hr, hl⟩
    (try simp only [World.size_alloc, World.size_setCell, World.size_drew] at hb)
    have HB := Lib.hid hb
    clear hb
    have s3 := HB.out.size
    (try simp only [World.size_alloc, World.size_setCell, World.size_drew] at s3)
    replace d1 := Lib.hid (d1.out.below HB.out (by omega))
    replace d2 := Lib.hid (d2.out.below HB.out (by omega))
    replace d3 := Lib.hid (d3.out.below HB.out (by omega))
    replace Bd := Lib.hid (Bd.out.below HB.out (by omega))
    replace EB := Lib.hid (below_step HB.out EB.out (by omega))
    clear HB
    have l1 := Lib.hid hl
    have x1 := Lib.hid hd
    have x2 := Lib.hid hd'
    have x3 := Lib.hid hr
    clear hd hd' hr hl
    have vdl := Bd.out.lt
    have vd0 := (Bd.out.2 0 _ rfl).1
    have vd1 := (Bd.out.2 1 _ rfl).1
    have vd2 := (Bd.out.2 2 _ rfl).1
    have vd3 := (Bd.out.2 3 _ rfl).1
    have vd4 := (Bd.out.2 4 _ rfl).1
    have vd5 := (Bd.out.2 5 _ rfl).1
    go_wp2_with fail
    clear vdl vd0 vd1 vd2 vd3 vd4 vd5
    replace d1 := Lib.hid (d1.out.alloc (by omega) (.cells #[.slice Ax nx cx, .int .i64 (P), .slice Ax' nx' cx', .int .i64 (Q), .slice Ex mx kx, .int .i64 (yd)] 27))
    replace d2 := Lib.hid (d2.out.alloc (by omega) (.cells #[.slice Ax nx cx, .int .i64 (P), .slice Ax' nx' cx', .int .i64 (Q), .slice Ex mx kx, .int .i64 (yd)] 27))
    replace d3 := Lib.hid (d3.out.alloc (by omega) (.cells #[.slice Ax nx cx, .int .i64 (P), .slice Ax' nx' cx', .int .i64 (Q), .slice Ex mx kx, .int .i64 (yd)] 27))
    replace Bd := Lib.hid (Bd.out.alloc (.cells #[.slice Ax nx cx, .int .i64 (P), .slice Ax' nx' cx', .int .i64 (Q), .slice Ex mx kx, .int .i64 (yd)] 27))
    replace l1 := Lib.hid (l1.out.alloc (by omega) (.cells #[.slice Ax nx cx, .int .i64 (P), .slice Ax' nx' cx', .int .i64 (Q), .slice Ex mx kx, .int .i64 (yd)] 27))
    replace x1 := Lib.hid (x1.out.alloc (by omega) (.cells #[.slice Ax nx cx, .int .i64 (P), .slice Ax' nx' cx', .int .i64 (Q), .slice Ex mx kx, .int .i64 (yd)] 27))
    replace x2 := Lib.hid (x2.out.alloc (by omega) (.cells #[.slice Ax nx cx, .int .i64 (P), .slice Ax' nx' cx', .int .i64 (Q), .slice Ex mx kx, .int .i64 (yd)] 27))
    replace x3 := Lib.hid (x3.out.alloc (by omega) (.cells #[.slice Ax nx cx, .int .i64 (P), .slice Ax' nx' cx', .int .i64 (Q), .slice Ex mx kx, .int .i64 (yd)] 27))
    replace EB := Lib.hid (EB.out.alloc (by omega) (.cells #[.slice Ax nx cx, .int .i64 (P), .slice Ax' nx' cx', .int .i64 (Q), .slice Ex mx kx, .int .i64 (yd)] 27))
    have Bx := Lib.hid (Box.new w3 27 [.slice Ax nx cx, .int .i64 (P), .slice Ax' nx' cx', .int .i64 (Q), .slice Ex mx kx, .int .i64 (yd)])
    have s4 : w3.heap.size + 1 ≤ (w3.alloc (.cells #[.slice Ax nx cx, .int .i64 (P), .slice Ax' nx' cx', .int .i64 (Q), .slice Ex mx kx, .int .i64 (yd)] 27)).heap.size := by simp
    generalize w3.alloc (.cells #[.slice Ax nx cx, .int .i64 (P), .slice Ax' nx' cx', .int .i64 (Q), .slice Ex mx kx, .int .i64 (yd)] 27) = w4 at *
    refine (to_rli (SPeekReader_x d1.out d2.out d3.out (by omega) (by omega) (by omega) hcd hcd' hkd (by omega) (by omega) (by omega) (by unfold okInt; omega)) HO.out).mono ?_
    rintro e w5 ⟨Ay, ny, cy, Ay', ny', cy', Ey, my, ky, Am, nm, cm, rfl, ⟨hcy, hcy', hky, hcm⟩, hb, hd, hd', hr, hl⟩
    (try simp only [World.size_alloc, World.size_setCell, World.size_drew] at hb)
    have HB := Lib.hid hb
    clear hb
    have s5 := HB.out.size
    (try simp only [World.size_alloc, World.size_setCell, World.size_drew] at s5)
    replace d1 := Lib.hid (d1.out.below HB.out (by omega))
    replace d2 := Lib.hid (d2.out.below HB.out (by omega))
    replace d3 := Lib.hid (d3.out.below HB.out (by omega))
    replace Bd := Lib.hid (Bd.out.below HB.out (by omega))
    replace l1 := Lib.hid (l1.out.below HB.out (by omega))
    replace x1 := Lib.hid (x1.out.below HB.out (by omega))
    replace x2 := Lib.hid (x2.out.below HB.out (by omega))
    replace x3 := Lib.hid (x3.out.below HB.out (by omega))
    replace Bx := Lib.hid (Bx.out.below HB.out (by omega))
    replace EB := Lib.hid (below_step HB.out EB.out (by omega))
    clear HB
    have m1 := Lib.hid hl
    have y1 := Lib.hid hd
    have y2 := Lib.hid hd'
    have y3 := Lib.hid hr
    clear hd hd' hr hl
    have vxl := Bx.out.lt
    have vx0 := (Bx.out.2 0 _ rfl).1
    have vx1 := (Bx.out.2 1 _ rfl).1
    have vx2 := (Bx.out.2 2 _ rfl).1
    have vx3 := (Bx.out.2 3 _ rfl).1
    have vx4 := (Bx.out.2 4 _ rfl).1
    have vx5 := (Bx.out.2 5 _ rfl).1
    go_wp2_with fail
    clear vxl vx0 vx1 vx2 vx3 vx4 vx5
    replace d1 := Lib.hid (d1.out.alloc (by omega) (.cells #[.slice Ay ny cy, .int .i64 (P), .slice Ay' ny' cy', .int .i64 (Q), .slice Ey my ky, .int .i64 (yd)] 27))
    replace d2 := Lib.hid (d2.out.alloc (by omega) (.cells #[.slice Ay ny cy, .int .i64 (P), .slice Ay' ny' cy', .int .i64 (Q), .slice Ey my ky, .int .i64 (yd)] 27))
    replace d3 := Lib.hid (d3.out.alloc (by omega) (.cells #[.slice Ay ny cy, .int .i64 (P), .slice Ay' ny' cy', .int .i64 (Q), .slice Ey my ky, .int .i64 (yd)] 27))
    replace Bd := Lib.hid (Bd.out.alloc (.cells #[.slice Ay ny cy, .int .i64 (P), .slice Ay' ny' cy', .int .i64 (Q), .slice Ey my ky, .int .i64 (yd)] 27))
    replace l1 := Lib.hid (l1.out.alloc (by omega) (.cells #[.slice Ay ny cy, .int .i64 (P), .slice Ay' ny' cy', .int .i64 (Q), .slice Ey my ky, .int .i64 (yd)] 27))
    replace x1 := Lib.hid (x1.out.alloc (by omega) (.cells #[.slice Ay ny cy, .int .i64 (P), .slice Ay' ny' cy', .int .i64 (Q), .slice Ey my ky, .int .i64 (yd)] 27))
    replace x2 := Lib.hid (x2.out.alloc (by omega) (.cells #[.slice Ay ny cy, .int .i64 (P), .slice Ay' ny' cy', .int .i64 (Q), .slice Ey my ky, .int .i64 (yd)] 27))
    replace x3 := Lib.hid (x3.out.alloc (by omega) (.cells #[.slice Ay ny cy, .int .i64 (P), .slice Ay' ny' cy', .int .i64 (Q), .slice Ey my ky, .int .i64 (yd)] 27))
    replace Bx := Lib.hid (Bx.out.alloc (.cells #[.slice Ay ny cy, .int .i64 (P), .slice Ay' ny' cy', .int .i64 (Q), .slice Ey my ky, .int .i64 (yd)] 27))
    replace m1 := Lib.hid (m1.out.alloc (by omega) (.cells #[.slice Ay ny cy, .int .i64 (P), .slice Ay' ny' cy', .int .i64 (Q), .slice Ey my ky, .int .i64 (yd)] 27))
    replace y1 := Lib.hid (y1.out.alloc (by omega) (.cells #[.slice Ay ny cy, .int .i64 (P), .slice Ay' ny' cy', .int .i64 (Q), .slice Ey my ky, .int .i64 (yd)] 27))
    replace y2 := Lib.hid (y2.out.alloc (by omega) (.cells #[.slice Ay ny cy, .int .i64 (P), .slice Ay' ny' cy', .int .i64 (Q), .slice Ey my ky, .int .i64 (yd)] 27))
    replace y3 := Lib.hid (y3.out.alloc (by omega) (.cells #[.slice Ay ny cy, .int .i64 (P), .slice Ay' ny' cy', .int .i64 (Q), .slice Ey my ky, .int .i64 (yd)] 27))
    replace EB := Lib.hid (EB.out.alloc (by omega) (.cells #[.slice Ay ny cy, .int .i64 (P), .slice Ay' ny' cy', .int .i64 (Q), .slice Ey my ky, .int .i64 (yd)] 27))
    have By := Lib.hid (Box.new w5 27 [.slice Ay ny cy, .int .i64 (P), .slice Ay' ny' cy', .int .i64 (Q), .slice Ey my ky, .int .i64 (yd)])
    have s6 : w5.heap.size + 1 ≤ (w5.alloc (.cells #[.slice Ay ny cy, .int .i64 (P), .slice Ay' ny' cy', .int .i64 (Q), .slice Ey my ky, .int .i64 (yd)] 27)).heap.size := by simp
    generalize w5.alloc (.cells #[.slice Ay ny cy, .int .i64 (P), .slice Ay' ny' cy', .int .i64 (Q), .slice Ey my ky, .int .i64 (yd)] 27) = w6 at *
    refine (equalReader_same x1.out x2.out x3.out y1.out y2.out y3.out (by omega) (by omega) (by omega) (by omega) (by omega) (by omega)).mono ?_
    rintro e w7 ⟨rfl, hb⟩
    (try simp only [World.size_alloc, World.size_setCell, World.size_drew] at hb)
    have HB := Lib.hid hb
    clear hb
    have s7 := HB.out.size
    (try simp only [World.size_alloc, World.size_setCell, World.size_drew] at s7)
    replace d1 := Lib.hid (d1.out.below HB.out (by omega))
    replace d2 := Lib.hid (d2.out.below HB.out (by omega))
    replace d3 := Lib.hid (d3.out.below HB.out (by omega))
    replace Bd := Lib.hid (Bd.out.below HB.out (by omega))
    replace l1 := Lib.hid (l1.out.below HB.out (by omega))
    replace x1 := Lib.hid (x1.out.below HB.out (by omega))
    replace x2 := Lib.hid (x2.out.below HB.out (by omega))
    replace x3 := Lib.hid (x3.out.below HB.out (by omega))
    replace Bx := Lib.hid (Bx.out.below HB.out (by omega))
    replace m1 := Lib.hid (m1.out.below HB.out (by omega))
    replace y1 := Lib.hid (y1.out.below HB.out (by omega))
    replace y2 := Lib.hid (y2.out.below HB.out (by omega))
    replace y3 := Lib.hid (y3.out.below HB.out (by omega))
    replace By := Lib.hid (By.out.below HB.out (by omega))
    replace EB := Lib.hid (below_step HB.out EB.out (by omega))
    clear HB
    go_wp2_with fail
    refine (equalInts_same l1.out m1.out rfl).mono ?_
    rintro e w8 ⟨rfl, hb⟩
    (try simp only [World.size_alloc, World.size_setCell, World.size_drew] at hb)
    have HB := Lib.hid hb
    clear hb
    have s8 := HB.out.size
    (try simp only [World.size_alloc, World.size_setCell, World.size_drew] at s8)
    replace d1 := Lib.hid (d1.out.below HB.out (by omega))
    replace d2 := Lib.hid (d2.out.below HB.out (by omega))
    replace d3 := Lib.hid (d3.out.below HB.out (by omega))
    replace Bd := Lib.hid (Bd.out.below HB.out (by omega))
    replace l1 := Lib.hid (l1.out.below HB.out (by omega))
    replace x1 := Lib.hid (x1.out.below HB.out (by omega))
    replace x2 := Lib.hid (x2.out.below HB.out (by omega))
    replace x3 := Lib.hid (x3.out.below HB.out (by omega))
    replace Bx := Lib.hid (Bx.out.below HB.out (by omega))
    replace m1 := Lib.hid (m1.out.below HB.out (by omega))
    replace y1 := Lib.hid (y1.out.below HB.out (by omega))
    replace y2 := Lib.hid (y2.out.below HB.out (by omega))
    replace y3 := Lib.hid (y3.out.below HB.out (by omega))
    replace By := Lib.hid (By.out.below HB.out (by omega))
    replace EB := Lib.hid (below_step HB.out EB.out (by omega))
    clear HB
    have hmx : mx ≤ 16 := by rw [x3.out.len]; exact R1L.out
    have hnl : (nl : Int) ≤ zn := by rw [l1.out.len]; exact LN.out
    have vxl := Bx.out.lt
    have vx0 := (Bx.out.2 0 _ rfl).1
    have vx1 := (Bx.out.2 1 _ rfl).1
    have vx2 := (Bx.out.2 2 _ rfl).1
    have vx3 := (Bx.out.2 3 _ rfl).1
    have vx4 := (Bx.out.2 4 _ rfl).1
    have vx5 := (Bx.out.2 5 _ rfl).1
    have vdl := Bd.out.lt
    have vd0 := (Bd.out.2 0 _ rfl).1
    have vd1 := (Bd.out.2 1 _ rfl).1
    have vd2 := (Bd.out.2 2 _ rfl).1
    have vd3 := (Bd.out.2 3 _ rfl).1
    have vd4 := (Bd.out.2 4 _ rfl).1
    have vd5 := (Bd.out.2 5 _ rfl).1
    go_wp2_with fail
    go_region_held3 (fun w' => (w'.cell? ⟨w3.heap.size, 0, none⟩ = some (.slice Ax nx cx) ∧ w'.cell? ⟨w3.heap.size, 1, none⟩ = some (.int .i64 (P)) ∧ w'.cell? ⟨w3.heap.size, 2, none⟩ = some (.slice Ax' nx' cx') ∧ w'.cell? ⟨w3.heap.size, 3, none⟩ = some (.int .i64 (Q)) ∧ w'.cell? ⟨w3.heap.size, 4, none⟩ = some (.slice Ex mx kx) ∧ w'.cell? ⟨w3.heap.size, 5, none⟩ = some (.int .i64 (yd))) ∧ (w'.cell? ⟨w1.heap.size, 0, none⟩ = some (.slice Ad nd cd) ∧ w'.cell? ⟨w1.heap.size, 1, none⟩ = some (.int .i64 (pd)) ∧ w'.cell? ⟨w1.heap.size, 2, none⟩ = some (.slice Ad' nd' cd') ∧ w'.cell? ⟨w1.heap.size, 3, none⟩ = some (.int .i64 (qd)) ∧ w'.cell? ⟨w1.heap.size, 4, none⟩ = some (.slice Ed md kd) ∧ w'.cell? ⟨w1.heap.size, 5, none⟩ = some (.int .i64 (yd)))) (go_keep)
      (first | (go_at_call 18; (with_reducible refine (to_intN (TellReader_x x1.out.drew x2.out.drew x3.out.drew (by first | omega | (simp; omega) | (simp; done)) (by first | omega | (simp; omega) | (simp; done)) (by first | omega | (simp; omega) | (simp; done)) hcx) TX.out).mono ?_); rintro e wg10 ⟨rfl, hb⟩; (try simp only [World.size_alloc, World.size_setCell, World.size_drew] at hb); have HRg10 := Lib.hid hb; have srg10 := hb.size; (try simp only [World.size_alloc, World.size_setCell, World.size_drew] at srg10); have Yxg10 := Lib.hid (Bx.out.drew.below hb (by omega)); have Ydg10 := Lib.hid (Bd.out.drew.below hb (by omega)); clear hb; have vx0 := (Yxg10.out.2 0 _ rfl).1; have vx1 := (Yxg10.out.2 1 _ rfl).1; have vx2 := (Yxg10.out.2 2 _ rfl).1; have vx3 := (Yxg10.out.2 3 _ rfl).1; have vx4 := (Yxg10.out.2 4 _ rfl).1; have vx5 := (Yxg10.out.2 5 _ rfl).1; have vd0 := (Ydg10.out.2 0 _ rfl).1; have vd1 := (Ydg10.out.2 1 _ rfl).1; have vd2 := (Ydg10.out.2 2 _ rfl).1; have vd3 := (Ydg10.out.2 3 _ rfl).1; have vd4 := (Ydg10.out.2 4 _ rfl).1; have vd5 := (Ydg10.out.2 5 _ rfl).1) | (go_at_call 18; (with_reducible refine (to_intN (TellReader_x (d1.out.drew.below HRg10.out (by first | omega | (simp; omega) | (simp; done))) (d2.out.drew.below HRg10.out (by first | omega | (simp; omega) | (simp; done))) (d3.out.drew.below HRg10.out (by first | omega | (simp; omega) | (simp; done))) (by first | omega | (simp; omega) | (simp; done)) (by first | omega | (simp; omega) | (simp; done)) (by first | omega | (simp; omega) | (simp; done)) hcd) TD.out).mono ?_); rintro e wg11 ⟨rfl, hb⟩; (try simp only [World.size_alloc, World.size_setCell, World.size_drew] at hb); have HRg11 := Lib.hid hb; have srg11 := hb.size; (try simp only [World.size_alloc, World.size_setCell, World.size_drew] at srg11); have Yxg11 := Lib.hid (Yxg10.out.below hb (by omega)); have Ydg11 := Lib.hid (Ydg10.out.below hb (by omega)); clear hb; have vx0 := (Yxg11.out.2 0 _ rfl).1; have vx1 := (Yxg11.out.2 1 _ rfl).1; have vx2 := (Yxg11.out.2 2 _ rfl).1; have vx3 := (Yxg11.out.2 3 _ rfl).1; have vx4 := (Yxg11.out.2 4 _ rfl).1; have vx5 := (Yxg11.out.2 5 _ rfl).1; have vd0 := (Ydg11.out.2 0 _ rfl).1; have vd1 := (Ydg11.out.2 1 _ rfl).1; have vd2 := (Ydg11.out.2 2 _ rfl).1; have vd3 := (Ydg11.out.2 3 _ rfl).1; have vd4 := (Ydg11.out.2 4 _ rfl).1; have vd5 := (Ydg11.out.2 5 _ rfl).1) | (go_at_call 20; (with_reducible refine (to_listN (ahead_any ((x1.out.drew.below HRg10.out (by first | omega | (simp; omega) | (simp; done))).below HRg11.out (by first | omega | (simp; omega) | (simp; done))) ((x2.out.drew.below HRg10.out (by first | omega | (simp; omega) | (simp; done))).below HRg11.out (by first | omega | (simp; omega) | (simp; done))) ((x3.out.drew.below HRg10.out (by first | omega | (simp; omega) | (simp; done))).below HRg11.out (by first | omega | (simp; omega) | (simp; done))) (by first | omega | (simp; omega) | (simp; done)) (by first | omega | (simp; omega) | (simp; done)) (by first | omega | (simp; omega) | (simp; done)) hcx (by first | omega | (simp; omega) | (simp; done))) AX.out).mono ?_); rintro e wg12 ⟨As, ns, cs, rfl, hcs, hb, hl⟩; (try simp only [World.size_alloc, World.size_setCell, World.size_drew] at hb hl); have HRg12 := Lib.hid hb; have srg12 := hb.size; (try simp only [World.size_alloc, World.size_setCell, World.size_drew] at srg12); have Yxg12 := Lib.hid (Yxg11.out.below hb (by omega)); have Ydg12 := Lib.hid (Ydg11.out.below hb (by omega)); have s1 := Lib.hid hl; clear hb hl; have vx0 := (Yxg12.out.2 0 _ rfl).1; have vx1 := (Yxg12.out.2 1 _ rfl).1; have vx2 := (Yxg12.out.2 2 _ rfl).1; have vx3 := (Yxg12.out.2 3 _ rfl).1; have vx4 := (Yxg12.out.2 4 _ rfl).1; have vx5 := (Yxg12.out.2 5 _ rfl).1; have vd0 := (Ydg12.out.2 0 _ rfl).1; have vd1 := (Ydg12.out.2 1 _ rfl).1; have vd2 := (Ydg12.out.2 2 _ rfl).1; have vd3 := (Ydg12.out.2 3 _ rfl).1; have vd4 := (Ydg12.out.2 4 _ rfl).1; have vd5 := (Ydg12.out.2 5 _ rfl).1) | (go_at_call 20; (with_reducible refine (to_listN (ahead_any (((d1.out.drew.below HRg10.out (by first | omega | (simp; omega) | (simp; done))).below HRg11.out (by first | omega | (simp; omega) | (simp; done))).below HRg12.out (by first | omega | (simp; omega) | (simp; done))) (((d2.out.drew.below HRg10.out (by first | omega | (simp; omega) | (simp; done))).below HRg11.out (by first | omega | (simp; omega) | (simp; done))).below HRg12.out (by first | omega | (simp; omega) | (simp; done))) (((d3.out.drew.below HRg10.out (by first | omega | (simp; omega) | (simp; done))).below HRg11.out (by first | omega | (simp; omega) | (simp; done))).below HRg12.out (by first | omega | (simp; omega) | (simp; done))) (by first | omega | (simp; omega) | (simp; done)) (by first | omega | (simp; omega) | (simp; done)) (by first | omega | (simp; omega) | (simp; done)) hcd (by first | omega | (simp; omega) | (simp; done))) AD.out).mono ?_); rintro e wg13 ⟨Au, nu, cu, rfl, hcu, hb, hl⟩; (try simp only [World.size_alloc, World.size_setCell, World.size_drew] at hb hl); have HRg13 := Lib.hid hb; have srg13 := hb.size; (try simp only [World.size_alloc, World.size_setCell, World.size_drew] at srg13); have Yxg13 := Lib.hid (Yxg12.out.below hb (by omega)); have Ydg13 := Lib.hid (Ydg12.out.below hb (by omega)); have u1 := Lib.hid hl; clear hb hl; have vx0 := (Yxg13.out.2 0 _ rfl).1; have vx1 := (Yxg13.out.2 1 _ rfl).1; have vx2 := (Yxg13.out.2 2 _ rfl).1; have vx3 := (Yxg13.out.2 3 _ rfl).1; have vx4 := (Yxg13.out.2 4 _ rfl).1; have vx5 := (Yxg13.out.2 5 _ rfl).1; have vd0 := (Ydg13.out.2 0 _ rfl).1; have vd1 := (Ydg13.out.2 1 _ rfl).1; have vd2 := (Ydg13.out.2 2 _ rfl).1; have vd3 := (Ydg13.out.2 3 _ rfl).1; have vd4 := (Ydg13.out.2 4 _ rfl).1; have vd5 := (Ydg13.out.2 5 _ rfl).1) | (go_at_call 19; (with_reducible refine (equalInts_same (s1.out.below HRg13.out (by first | omega | (simp; omega) | (simp; done))) u1.out rfl).mono ?_); rintro e wg14 ⟨rfl, hb⟩; (try simp only [World.size_alloc, World.size_setCell, World.size_drew] at hb); have HRg14 := Lib.hid hb; have srg14 := hb.size; (try simp only [World.size_alloc, World.size_setCell, World.size_drew] at srg14); have Yxg14 := Lib.hid (Yxg13.out.below hb (by omega)); have Ydg14 := Lib.hid (Ydg13.out.below hb (by omega)); clear hb; have vx0 := (Yxg14.out.2 0 _ rfl).1; have vx1 := (Yxg14.out.2 1 _ rfl).1; have vx2 := (Yxg14.out.2 2 _ rfl).1; have vx3 := (Yxg14.out.2 3 _ rfl).1; have vx4 := (Yxg14.out.2 4 _ rfl).1; have vx5 := (Yxg14.out.2 5 _ rfl).1; have vd0 := (Ydg14.out.2 0 _ rfl).1; have vd1 := (Ydg14.out.2 1 _ rfl).1; have vd2 := (Ydg14.out.2 2 _ rfl).1; have vd3 := (Ydg14.out.2 3 _ rfl).1; have vd4 := (Ydg14.out.2 4 _ rfl).1; have vd5 := (Ydg14.out.2 5 _ rfl).1) | (go_at_call 20; (with_reducible refine (to_listN (ahead_any (((((d1.out.drew.below HRg10.out (by first | omega | (simp; omega) | (simp; done))).below HRg11.out (by first | omega | (simp; omega) | (simp; done))).below HRg12.out (by first | omega | (simp; omega) | (simp; done))).below HRg13.out (by first | omega | (simp; omega) | (simp; done))).below HRg14.out (by first | omega | (simp; omega) | (simp; done))) (((((d2.out.drew.below HRg10.out (by first | omega | (simp; omega) | (simp; done))).below HRg11.out (by first | omega | (simp; omega) | (simp; done))).below HRg12.out (by first | omega | (simp; omega) | (simp; done))).below HRg13.out (by first | omega | (simp; omega) | (simp; done))).below HRg14.out (by first | omega | (simp; omega) | (simp; done))) (((((d3.out.drew.below HRg10.out (by first | omega | (simp; omega) | (simp; done))).below HRg11.out (by first | omega | (simp; omega) | (simp; done))).below HRg12.out (by first | omega | (simp; omega) | (simp; done))).below HRg13.out (by first | omega | (simp; omega) | (simp; done))).below HRg14.out (by first | omega | (simp; omega) | (simp; done))) (by first | omega | (simp; omega) | (simp; done)) (by first | omega | (simp; omega) | (simp; done)) (by first | omega | (simp; omega) | (simp; done)) hcd (by first | omega | (simp; omega) | (simp; done))) AD.out).mono ?_); rintro e wg15 ⟨Av, nv, cv, rfl, hcv, hb, hl⟩; (try simp only [World.size_alloc, World.size_setCell, World.size_drew] at hb hl); have HRg15 := Lib.hid hb; have srg15 := hb.size; (try simp only [World.size_alloc, World.size_setCell, World.size_drew] at srg15); have Yxg15 := Lib.hid (Yxg14.out.below hb (by omega)); have Ydg15 := Lib.hid (Ydg14.out.below hb (by omega)); have v1 := Lib.hid hl; clear hb hl; have vx0 := (Yxg15.out.2 0 _ rfl).1; have vx1 := (Yxg15.out.2 1 _ rfl).1; have vx2 := (Yxg15.out.2 2 _ rfl).1; have vx3 := (Yxg15.out.2 3 _ rfl).1; have vx4 := (Yxg15.out.2 4 _ rfl).1; have vx5 := (Yxg15.out.2 5 _ rfl).1; have vd0 := (Ydg15.out.2 0 _ rfl).1; have vd1 := (Ydg15.out.2 1 _ rfl).1; have vd2 := (Ydg15.out.2 2 _ rfl).1; have vd3 := (Ydg15.out.2 3 _ rfl).1; have vd4 := (Ydg15.out.2 4 _ rfl).1; have vd5 := (Ydg15.out.2 5 _ rfl).1) | (go_at_call 25; (with_reducible refine (begins_same v1.out ((((((l1.out.drew.below HRg10.out (by first | omega | (simp; omega) | (simp; done))).below HRg11.out (by first | omega | (simp; omega) | (simp; done))).below HRg12.out (by first | omega | (simp; omega) | (simp; done))).below HRg13.out (by first | omega | (simp; omega) | (simp; done))).below HRg14.out (by first | omega | (simp; omega) | (simp; done))).below HRg15.out (by first | omega | (simp; omega) | (simp; done))) hcv BE.out).mono ?_); rintro e wg16 ⟨rfl, hb⟩; (try simp only [World.size_alloc, World.size_setCell, World.size_drew] at hb); have HRg16 := Lib.hid hb; have srg16 := hb.size; (try simp only [World.size_alloc, World.size_setCell, World.size_drew] at srg16); have Yxg16 := Lib.hid (Yxg15.out.below hb (by omega)); have Ydg16 := Lib.hid (Ydg15.out.below hb (by omega)); clear hb; have vx0 := (Yxg16.out.2 0 _ rfl).1; have vx1 := (Yxg16.out.2 1 _ rfl).1; have vx2 := (Yxg16.out.2 2 _ rfl).1; have vx3 := (Yxg16.out.2 3 _ rfl).1; have vx4 := (Yxg16.out.2 4 _ rfl).1; have vx5 := (Yxg16.out.2 5 _ rfl).1; have vd0 := (Ydg16.out.2 0 _ rfl).1; have vd1 := (Ydg16.out.2 1 _ rfl).1; have vd2 := (Ydg16.out.2 2 _ rfl).1; have vd3 := (Ydg16.out.2 3 _ rfl).1; have vd4 := (Ydg16.out.2 4 _ rfl).1; have vd5 := (Ydg16.out.2 5 _ rfl).1) | (go_at_call 16; (with_reducible refine (to_boolN (ValidReader_any (((((((x1.out.drew.below HRg10.out (by first | omega | (simp; omega) | (simp; done))).below HRg11.out (by first | omega | (simp; omega) | (simp; done))).below HRg12.out (by first | omega | (simp; omega) | (simp; done))).below HRg13.out (by first | omega | (simp; omega) | (simp; done))).below HRg14.out (by first | omega | (simp; omega) | (simp; done))).below HRg15.out (by first | omega | (simp; omega) | (simp; done))).below HRg16.out (by first | omega | (simp; omega) | (simp; done))) (((((((x2.out.drew.below HRg10.out (by first | omega | (simp; omega) | (simp; done))).below HRg11.out (by first | omega | (simp; omega) | (simp; done))).below HRg12.out (by first | omega | (simp; omega) | (simp; done))).below HRg13.out (by first | omega | (simp; omega) | (simp; done))).below HRg14.out (by first | omega | (simp; omega) | (simp; done))).below HRg15.out (by first | omega | (simp; omega) | (simp; done))).below HRg16.out (by first | omega | (simp; omega) | (simp; done))) (((((((x3.out.drew.below HRg10.out (by first | omega | (simp; omega) | (simp; done))).below HRg11.out (by first | omega | (simp; omega) | (simp; done))).below HRg12.out (by first | omega | (simp; omega) | (simp; done))).below HRg13.out (by first | omega | (simp; omega) | (simp; done))).below HRg14.out (by first | omega | (simp; omega) | (simp; done))).below HRg15.out (by first | omega | (simp; omega) | (simp; done))).below HRg16.out (by first | omega | (simp; omega) | (simp; done))) (by first | omega | (simp; omega) | (simp; done)) (by first | omega | (simp; omega) | (simp; done)) (by first | omega | (simp; omega) | (simp; done)) hcx) VX.out).mono ?_); rintro e wg17 ⟨rfl, hb⟩; (try simp only [World.size_alloc, World.size_setCell, World.size_drew] at hb); have HRg17 := Lib.hid hb; have srg17 := hb.size; (try simp only [World.size_alloc, World.size_setCell, World.size_drew] at srg17); have Yxg17 := Lib.hid (Yxg16.out.below hb (by omega)); have Ydg17 := Lib.hid (Ydg16.out.below hb (by omega)); clear hb; have vx0 := (Yxg17.out.2 0 _ rfl).1; have vx1 := (Yxg17.out.2 1 _ rfl).1; have vx2 := (Yxg17.out.2 2 _ rfl).1; have vx3 := (Yxg17.out.2 3 _ rfl).1; have vx4 := (Yxg17.out.2 4 _ rfl).1; have vx5 := (Yxg17.out.2 5 _ rfl).1; have vd0 := (Ydg17.out.2 0 _ rfl).1; have vd1 := (Ydg17.out.2 1 _ rfl).1; have vd2 := (Ydg17.out.2 2 _ rfl).1; have vd3 := (Ydg17.out.2 3 _ rfl).1; have vd4 := (Ydg17.out.2 4 _ rfl).1; have vd5 := (Ydg17.out.2 5 _ rfl).1) | fail)
    go_wp2
    go_ret
    exact ⟨rfl, (below_step HRg17.out (below_step HRg16.out (below_step HRg15.out (below_step HRg14.out (below_step HRg13.out (below_step HRg12.out (below_step HRg11.out (below_step HRg10.out EB.out.drew (by first | omega | (simp; omega) | (simp; done))) (by first | omega | (simp; omega) | (simp; done))) (by first | omega | (simp; omega) | (simp; done))) (by first | omega | (simp; omega) | (simp; done))) (by first | omega | (simp; omega) | (simp; done))) (by first | omega | (simp; omega) | (simp; done))) (by first | omega | (simp; omega) | (simp; done))) (by first | omega | (simp; omega) | (simp; done)))⟩

theorem contract (H : Type) (enc : TypeId × Value → H) (W : World) (base : Nat) (args : Array Value) (ds gs : List (DataW H)) (before : List MemPlace)
    (hval : ∀ (j : Nat) t v, Try.f9.params[j]? = some t → args[j]? = some v → Value.okWide Try.prog W .any base t v)
    (hW : DataW.Whole enc Try.prog Try.f9.params.toList Rows.fnPeekReaderSpec.vars false W args.toList ds gs before) :
    Calls Try.prog 9 args W fun e W' => ∃ v, e = .returned v ∧ Rows.fnPeekReaderSpec.post enc Try.prog Try.f9 false true false false W args v W' := by
  have hW' := hW
  have hlt : ∀ p ∈ before, p.block < W.heap.size := fun p hp => hW.lt p hp
  obtain ⟨p, q, hA0, hV, rfl, hfz, hnd⟩ := hW
  have hA : DataW.TrodAll enc Try.prog W 0 (fun _ => true) true Try.f9.params.toList args.toList ds p := hA0
  rw [Try.params9] at hA hval
  obtain ⟨v0, vs0, d0, ds0, p0, q0, hargs, rfl, rfl, h0, r0⟩ := trodAll_cons hA
  obtain ⟨rfl, rfl, rfl⟩ := trodAll_nil r0
  obtain rfl : args = #[v0] := by cases args; simp_all
  obtain ⟨rfl, rfl⟩ := trodVars_none hV
  obtain ⟨A, n, c, rfl, hnc, hby, hmx⟩ := arg_bytes (hval 0 _ v0 rfl rfl) h0 (fun p hp => hlt p (by simp [hp]))
  refine (walk A n c W hby hnc hmx).mono fun e W' hh => ?_
  obtain ⟨rfl, hb⟩ := hh
  exact ⟨_, rfl, law_post laidOut (tys_of (by rw [Try.params9]; kernel_rfl)) hW' rfl rfl rfl Try.underlying4 hb⟩

set_option maxRecDepth 100000 in
theorem lifted (os : Os) (started : os.Started) (H : Type) (enc : TypeId × Value → H) :
    ReturnsInHanded {} Try.checked os 9 .any (Rows.fnPeekReaderSpec.pre6 enc Try.prog Try.f9 Rows.fnPeekReaderRow.domain false) (Rows.fnPeekReaderSpec.post enc Try.prog Try.f9 false true false false) := by
  refine returnsInHanded_of_change (C := Try.checked) own started (by kernel_rfl) Try.func9
    (ChangeSpec.witness6 (C := Try.checked) false ⟨#[], #[.slice none 0 0], []⟩ 8 (by kernel_rfl) (by kernel_rfl) (by kernel_rfl) (by kernel_rfl)) ?_
  intro W base args ds gs before hval hW _ _
  exact contract H enc W base args ds gs before hval hW

theorem holds : Rows.FnPeekReaderSaid :=
  OpenClaim.holds_of_wide 9 Try.f9 rfl rfl rfl rfl rfl rfl rfl ⟨rfl, rfl, rfl, rfl, rfl⟩ rfl rfl rfl rfl rfl (by kernel_rfl) Try.func9 (by kernel_rfl)
    (of_decide_eq_true (by kernel_rfl)) (by unfold Func.isWrapper; first | (rw [if_pos (by decide +kernel)]; kernel_rfl) | (rw [if_neg (by decide +kernel)]; exact ⟨rfl, rfl⟩))
    (fun os started H enc _ => lifted os started H enc)
end LawPeekReader
end Go.Proofs.Ytbgbkemamipomaa
