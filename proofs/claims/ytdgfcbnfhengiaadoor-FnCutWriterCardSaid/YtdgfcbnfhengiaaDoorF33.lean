/- The law of promise 33: a writer that was cut, and ended well, has as many bytes as was told, what was seen as far as it goes, and nothing left. No conditions. -/
import Derived.Test.YtdgfcbnfhengiaaDoorG1
import Derived.Test.YtdgfcbnfhengiaaDoorW3
import Derived.Test.YtdgfcbnfhengiaaDoorW4
import Derived.Test.YtdgfcbnfhengiaaDoorW5
import Derived.Test.YtdgfcbnfhengiaaDoorS3a
import Derived.Test.YtdgfcbnfhengiaaDoorS3b
import Derived.Test.YtdgfcbnfhengiaaDoorS3d
import Derived.Test.YtdgfcbnfhengiaaDoorC3d
import Derived.Test.YtdgfcbnfhengiaaDoorW6
import Derived.Test.YtdgfcbnfhengiaaDoorER3
import Derived.Test.YtdgfcbnfhengiaaDoorCards
import Derived.Test.YtdgfcbnfhengiaaDoorTie
set_option maxRecDepth 10000
namespace Go.Proofs.YtdgfcbnfhengiaaDoor
open Go.ChangeShapes Go.WideShapes Go.ChangeAt Go.RowKit
set_option linter.unusedSimpArgs false
set_option linter.unusedVariables false
namespace LawCutWriter
set_option maxHeartbeats 8000000 in
theorem walk {a0 a1 a2 : Addr} (A : Option Addr) (n c : Nat) (w : World) (h : BytesIn w w.heap.size A n) (hnc : n ≤ c) (hm : n ≤ 9223372036854775807) (HE : Errs w w.heap.size a0 a1 a2) :
    Calls Tryd.prog 6 #[.slice A n c] w (BoolB true w) := by
  have HBY := Lib.hid h
  clear h
  have EB := Lib.hid (Below.refl w.heap.size w)
  by_cases hbig : (1048576 : Int) < (n : Int)
  · go_enter Tryd.func6, Tryd.ntmps6
    go_wp2
    go_ret
    exact ⟨rfl, Below.refl _ _⟩
  go_enter Tryd.func6, Tryd.ntmps6
  go_wp2_with fail
  refine (DrawCutWriter_any HBY.out (by omega) hnc).mono ?_
  rintro e w1 ⟨Ad, nd, cd, Ad', nd', cd', Ed, md, kd, Dd, Sd, Rd, pd, qd, yd, zn, rfl, ⟨⟨hcd, hcd', hkd⟩, ⟨hnd, hnd', hmd⟩, hpd, hqd, hyd, hb, hd, hd', hr⟩, hzn⟩
  (try simp only [World.size_alloc, World.size_setCell, World.size_drew] at hb)
  have HB := Lib.hid hb
  clear hb
  have s1 := HB.out.size
  (try simp only [World.size_alloc, World.size_setCell, World.size_drew] at s1)
  replace EB := Lib.hid (below_step HB.out EB.out (by omega))
  clear HB
  clear HBY
  have d1 := Lib.hid hd
  have d2 := Lib.hid hd'
  have d3 := Lib.hid hr
  clear hd hd' hr
  go_wp2_with fail
  replace d1 := Lib.hid (d1.out.alloc (by omega) (.cells #[.slice Ad nd cd, .int .i64 (pd), .slice Ad' nd' cd', .int .i64 (qd), .slice Ed md kd, .int .i64 (yd)] 27))
  replace d2 := Lib.hid (d2.out.alloc (by omega) (.cells #[.slice Ad nd cd, .int .i64 (pd), .slice Ad' nd' cd', .int .i64 (qd), .slice Ed md kd, .int .i64 (yd)] 27))
  replace d3 := Lib.hid (d3.out.alloc (by omega) (.cells #[.slice Ad nd cd, .int .i64 (pd), .slice Ad' nd' cd', .int .i64 (qd), .slice Ed md kd, .int .i64 (yd)] 27))
  replace EB := Lib.hid (EB.out.alloc (by omega) (.cells #[.slice Ad nd cd, .int .i64 (pd), .slice Ad' nd' cd', .int .i64 (qd), .slice Ed md kd, .int .i64 (yd)] 27))
  have Bd := Lib.hid (Box.new w1 27 [.slice Ad nd cd, .int .i64 (pd), .slice Ad' nd' cd', .int .i64 (qd), .slice Ed md kd, .int .i64 (yd)])
  have s2 : w1.heap.size + 1 ≤ (w1.alloc (.cells #[.slice Ad nd cd, .int .i64 (pd), .slice Ad' nd' cd', .int .i64 (qd), .slice Ed md kd, .int .i64 (yd)] 27)).heap.size := by simp
  generalize w1.alloc (.cells #[.slice Ad nd cd, .int .i64 (pd), .slice Ad' nd' cd', .int .i64 (qd), .slice Ed md kd, .int .i64 (yd)] 27) = w2 at *
  cases hg : (goodW Dd pd Sd qd Rd yd && inB zn 0 60)
  · have vdl := Bd.out.lt
    have vd0 := (Bd.out.2 0 _ rfl).1
    have vd1 := (Bd.out.2 1 _ rfl).1
    have vd2 := (Bd.out.2 2 _ rfl).1
    have vd3 := (Bd.out.2 3 _ rfl).1
    have vd4 := (Bd.out.2 4 _ rfl).1
    have vd5 := (Bd.out.2 5 _ rfl).1
    go_wp2_with fail
    refine (to_ri (CutWriter_x (HE.below EB.out (Nat.le_refl _)) EB.out.size d1.out d2.out d3.out (by omega) (by omega) (by omega) hcd hcd' hkd (by omega) (by omega) (by omega) (by unfold okInt; omega)) (cut_w_no hg)).mono ?_
    clear vdl vd0 vd1 vd2 vd3 vd4 vd5
    rintro e w3 ⟨Ax, nx, cx, Ax', nx', cx', Ex, mx, kx, rfl, ⟨hcx, hcx', hkx⟩, hb, hd, hd', hr⟩
    (try simp only [World.size_alloc, World.size_setCell, World.size_drew] at hb)
    have HB := Lib.hid hb
    clear hb
    have s3 := HB.out.size
    (try simp only [World.size_alloc, World.size_setCell, World.size_drew] at s3)
    replace d1 := Lib.hid (d1.out.below HB.out (by omega))
    replace d2 := Lib.hid (d2.out.below HB.out (by omega))
    replace d3 := Lib.hid (d3.out.below HB.out (by omega))
    replace Bd := Lib.hid (Bd.out.below HB.out (by omega))
    replace EB := Lib.hid (below_step HB.out EB.out (by omega))
    clear HB
    have x1 := Lib.hid hd
    have x2 := Lib.hid hd'
    have x3 := Lib.hid hr
    clear hd hd' hr
    have vdl := Bd.out.lt
    have vd0 := (Bd.out.2 0 _ rfl).1
    have vd1 := (Bd.out.2 1 _ rfl).1
    have vd2 := (Bd.out.2 2 _ rfl).1
    have vd3 := (Bd.out.2 3 _ rfl).1
    have vd4 := (Bd.out.2 4 _ rfl).1
    have vd5 := (Bd.out.2 5 _ rfl).1
    go_wp2_with fail
    clear vdl vd0 vd1 vd2 vd3 vd4 vd5
    replace d1 := Lib.hid (d1.out.alloc (by omega) (.cells #[.slice Ax nx cx, .int .i64 (0), .slice Ax' nx' cx', .int .i64 (0), .slice Ex mx kx, .int .i64 (0)] 27))
    replace d2 := Lib.hid (d2.out.alloc (by omega) (.cells #[.slice Ax nx cx, .int .i64 (0), .slice Ax' nx' cx', .int .i64 (0), .slice Ex mx kx, .int .i64 (0)] 27))
    replace d3 := Lib.hid (d3.out.alloc (by omega) (.cells #[.slice Ax nx cx, .int .i64 (0), .slice Ax' nx' cx', .int .i64 (0), .slice Ex mx kx, .int .i64 (0)] 27))
    replace Bd := Lib.hid (Bd.out.alloc (.cells #[.slice Ax nx cx, .int .i64 (0), .slice Ax' nx' cx', .int .i64 (0), .slice Ex mx kx, .int .i64 (0)] 27))
    replace x1 := Lib.hid (x1.out.alloc (by omega) (.cells #[.slice Ax nx cx, .int .i64 (0), .slice Ax' nx' cx', .int .i64 (0), .slice Ex mx kx, .int .i64 (0)] 27))
    replace x2 := Lib.hid (x2.out.alloc (by omega) (.cells #[.slice Ax nx cx, .int .i64 (0), .slice Ax' nx' cx', .int .i64 (0), .slice Ex mx kx, .int .i64 (0)] 27))
    replace x3 := Lib.hid (x3.out.alloc (by omega) (.cells #[.slice Ax nx cx, .int .i64 (0), .slice Ax' nx' cx', .int .i64 (0), .slice Ex mx kx, .int .i64 (0)] 27))
    replace EB := Lib.hid (EB.out.alloc (by omega) (.cells #[.slice Ax nx cx, .int .i64 (0), .slice Ax' nx' cx', .int .i64 (0), .slice Ex mx kx, .int .i64 (0)] 27))
    have Bx := Lib.hid (Box.new w3 27 [.slice Ax nx cx, .int .i64 (0), .slice Ax' nx' cx', .int .i64 (0), .slice Ex mx kx, .int .i64 (0)])
    have s4 : w3.heap.size + 1 ≤ (w3.alloc (.cells #[.slice Ax nx cx, .int .i64 (0), .slice Ax' nx' cx', .int .i64 (0), .slice Ex mx kx, .int .i64 (0)] 27)).heap.size := by simp
    generalize w3.alloc (.cells #[.slice Ax nx cx, .int .i64 (0), .slice Ax' nx' cx', .int .i64 (0), .slice Ex mx kx, .int .i64 (0)] 27) = w4 at *
    refine (to_ri (SCutWriter_x d1.out d2.out d3.out (by omega) (by omega) (by omega) hcd hcd' hkd (by omega) (by omega) (by omega) (by unfold okInt; omega)) (cut_w_no hg)).mono ?_
    rintro e w5 ⟨Ay, ny, cy, Ay', ny', cy', Ey, my, ky, rfl, ⟨hcy, hcy', hky⟩, hb, hd, hd', hr⟩
    (try simp only [World.size_alloc, World.size_setCell, World.size_drew] at hb)
    have HB := Lib.hid hb
    clear hb
    have s5 := HB.out.size
    (try simp only [World.size_alloc, World.size_setCell, World.size_drew] at s5)
    replace d1 := Lib.hid (d1.out.below HB.out (by omega))
    replace d2 := Lib.hid (d2.out.below HB.out (by omega))
    replace d3 := Lib.hid (d3.out.below HB.out (by omega))
    replace Bd := Lib.hid (Bd.out.below HB.out (by omega))
    replace x1 := Lib.hid (x1.out.below HB.out (by omega))
    replace x2 := Lib.hid (x2.out.below HB.out (by omega))
    replace x3 := Lib.hid (x3.out.below HB.out (by omega))
    replace Bx := Lib.hid (Bx.out.below HB.out (by omega))
    replace EB := Lib.hid (below_step HB.out EB.out (by omega))
    clear HB
    have y1 := Lib.hid hd
    have y2 := Lib.hid hd'
    have y3 := Lib.hid hr
    clear hd hd' hr
    have vxl := Bx.out.lt
    have vx0 := (Bx.out.2 0 _ rfl).1
    have vx1 := (Bx.out.2 1 _ rfl).1
    have vx2 := (Bx.out.2 2 _ rfl).1
    have vx3 := (Bx.out.2 3 _ rfl).1
    have vx4 := (Bx.out.2 4 _ rfl).1
    have vx5 := (Bx.out.2 5 _ rfl).1
    go_wp2_with fail
    clear vxl vx0 vx1 vx2 vx3 vx4 vx5
    replace d1 := Lib.hid (d1.out.alloc (by omega) (.cells #[.slice Ay ny cy, .int .i64 (0), .slice Ay' ny' cy', .int .i64 (0), .slice Ey my ky, .int .i64 (0)] 27))
    replace d2 := Lib.hid (d2.out.alloc (by omega) (.cells #[.slice Ay ny cy, .int .i64 (0), .slice Ay' ny' cy', .int .i64 (0), .slice Ey my ky, .int .i64 (0)] 27))
    replace d3 := Lib.hid (d3.out.alloc (by omega) (.cells #[.slice Ay ny cy, .int .i64 (0), .slice Ay' ny' cy', .int .i64 (0), .slice Ey my ky, .int .i64 (0)] 27))
    replace Bd := Lib.hid (Bd.out.alloc (.cells #[.slice Ay ny cy, .int .i64 (0), .slice Ay' ny' cy', .int .i64 (0), .slice Ey my ky, .int .i64 (0)] 27))
    replace x1 := Lib.hid (x1.out.alloc (by omega) (.cells #[.slice Ay ny cy, .int .i64 (0), .slice Ay' ny' cy', .int .i64 (0), .slice Ey my ky, .int .i64 (0)] 27))
    replace x2 := Lib.hid (x2.out.alloc (by omega) (.cells #[.slice Ay ny cy, .int .i64 (0), .slice Ay' ny' cy', .int .i64 (0), .slice Ey my ky, .int .i64 (0)] 27))
    replace x3 := Lib.hid (x3.out.alloc (by omega) (.cells #[.slice Ay ny cy, .int .i64 (0), .slice Ay' ny' cy', .int .i64 (0), .slice Ey my ky, .int .i64 (0)] 27))
    replace Bx := Lib.hid (Bx.out.alloc (.cells #[.slice Ay ny cy, .int .i64 (0), .slice Ay' ny' cy', .int .i64 (0), .slice Ey my ky, .int .i64 (0)] 27))
    replace y1 := Lib.hid (y1.out.alloc (by omega) (.cells #[.slice Ay ny cy, .int .i64 (0), .slice Ay' ny' cy', .int .i64 (0), .slice Ey my ky, .int .i64 (0)] 27))
    replace y2 := Lib.hid (y2.out.alloc (by omega) (.cells #[.slice Ay ny cy, .int .i64 (0), .slice Ay' ny' cy', .int .i64 (0), .slice Ey my ky, .int .i64 (0)] 27))
    replace y3 := Lib.hid (y3.out.alloc (by omega) (.cells #[.slice Ay ny cy, .int .i64 (0), .slice Ay' ny' cy', .int .i64 (0), .slice Ey my ky, .int .i64 (0)] 27))
    replace EB := Lib.hid (EB.out.alloc (by omega) (.cells #[.slice Ay ny cy, .int .i64 (0), .slice Ay' ny' cy', .int .i64 (0), .slice Ey my ky, .int .i64 (0)] 27))
    have By := Lib.hid (Box.new w5 27 [.slice Ay ny cy, .int .i64 (0), .slice Ay' ny' cy', .int .i64 (0), .slice Ey my ky, .int .i64 (0)])
    have s6 : w5.heap.size + 1 ≤ (w5.alloc (.cells #[.slice Ay ny cy, .int .i64 (0), .slice Ay' ny' cy', .int .i64 (0), .slice Ey my ky, .int .i64 (0)] 27)).heap.size := by simp
    generalize w5.alloc (.cells #[.slice Ay ny cy, .int .i64 (0), .slice Ay' ny' cy', .int .i64 (0), .slice Ey my ky, .int .i64 (0)] 27) = w6 at *
    refine (equalWriter_same x1.out x2.out x3.out y1.out y2.out y3.out (by omega) (by omega) (by omega) (by omega) (by omega) (by omega)).mono ?_
    rintro e w7 ⟨rfl, hb⟩
    (try simp only [World.size_alloc, World.size_setCell, World.size_drew] at hb)
    have HB := Lib.hid hb
    clear hb
    have s7 := HB.out.size
    (try simp only [World.size_alloc, World.size_setCell, World.size_drew] at s7)
    replace d1 := Lib.hid (d1.out.below HB.out (by omega))
    replace d2 := Lib.hid (d2.out.below HB.out (by omega))
    replace d3 := Lib.hid (d3.out.below HB.out (by omega))
    replace Bd := Lib.hid (Bd.out.below HB.out (by omega))
    replace x1 := Lib.hid (x1.out.below HB.out (by omega))
    replace x2 := Lib.hid (x2.out.below HB.out (by omega))
    replace x3 := Lib.hid (x3.out.below HB.out (by omega))
    replace Bx := Lib.hid (Bx.out.below HB.out (by omega))
    replace y1 := Lib.hid (y1.out.below HB.out (by omega))
    replace y2 := Lib.hid (y2.out.below HB.out (by omega))
    replace y3 := Lib.hid (y3.out.below HB.out (by omega))
    replace By := Lib.hid (By.out.below HB.out (by omega))
    replace EB := Lib.hid (below_step HB.out EB.out (by omega))
    clear HB
    have vxl := Bx.out.lt
    have vx0 := (Bx.out.2 0 _ rfl).1
    have vx1 := (Bx.out.2 1 _ rfl).1
    have vx2 := (Bx.out.2 2 _ rfl).1
    have vx3 := (Bx.out.2 3 _ rfl).1
    have vx4 := (Bx.out.2 4 _ rfl).1
    have vx5 := (Bx.out.2 5 _ rfl).1
    have vyl := By.out.lt
    have vy0 := (By.out.2 0 _ rfl).1
    have vy1 := (By.out.2 1 _ rfl).1
    have vy2 := (By.out.2 2 _ rfl).1
    have vy3 := (By.out.2 3 _ rfl).1
    have vy4 := (By.out.2 4 _ rfl).1
    have vy5 := (By.out.2 5 _ rfl).1
    go_wp2_with fail
    refine (equalWriter_same x1.out x2.out x3.out y1.out y2.out y3.out (by omega) (by omega) (by omega) (by omega) (by omega) (by omega)).mono ?_
    clear vxl vx0 vx1 vx2 vx3 vx4 vx5 vyl vy0 vy1 vy2 vy3 vy4 vy5
    rintro e w8 ⟨rfl, hb⟩
    (try simp only [World.size_alloc, World.size_setCell, World.size_drew] at hb)
    have HB := Lib.hid hb
    clear hb
    have s8 := HB.out.size
    (try simp only [World.size_alloc, World.size_setCell, World.size_drew] at s8)
    replace d1 := Lib.hid (d1.out.below HB.out (by omega))
    replace d2 := Lib.hid (d2.out.below HB.out (by omega))
    replace d3 := Lib.hid (d3.out.below HB.out (by omega))
    replace Bd := Lib.hid (Bd.out.below HB.out (by omega))
    replace x1 := Lib.hid (x1.out.below HB.out (by omega))
    replace x2 := Lib.hid (x2.out.below HB.out (by omega))
    replace x3 := Lib.hid (x3.out.below HB.out (by omega))
    replace Bx := Lib.hid (Bx.out.below HB.out (by omega))
    replace y1 := Lib.hid (y1.out.below HB.out (by omega))
    replace y2 := Lib.hid (y2.out.below HB.out (by omega))
    replace y3 := Lib.hid (y3.out.below HB.out (by omega))
    replace By := Lib.hid (By.out.below HB.out (by omega))
    replace EB := Lib.hid (below_step HB.out EB.out (by omega))
    clear HB
    go_wp2
    go_ret
    exact ⟨rfl, EB.out⟩
  · obtain ⟨D1, P, Q, R1, st, ho, h5, hr, hd1, hS1, hP, hvw, hN, hwhat⟩ := cut_w_yes hg
    have hs5 : (st == 5) = false := by simpa using h5
    clear hg
    obtain ⟨N, rfl⟩ := Int.eq_ofNat_of_zero_le hN.1
    obtain ⟨V, hV⟩ : ∃ V, seenOut Dd pd Sd qd Rd yd = V := ⟨_, rfl⟩
    obtain ⟨tl, htl⟩ : ∃ tl, tellWOut Dd pd Sd qd Rd yd = tl := ⟨_, rfl⟩
    rw [hV, htl, Int.toNat_natCast] at hwhat
    have HO := Lib.hid ho
    have SV := Lib.hid hV
    have TV := Lib.hid htl
    have RL := Lib.hid hr
    have DL := Lib.hid hd1
    have WHAT := Lib.hid hwhat
    clear ho hV htl hr hd1 hwhat hvw
    by_cases h0 : st = 0
    · subst h0
      obtain ⟨hr0, hdl, hpre, htx⟩ := WHAT.out rfl
      have RZ := Lib.hid hr0; have DN := Lib.hid hdl; have PRE := Lib.hid hpre; have TX := Lib.hid htx
      clear hr0 hdl hpre htx WHAT h5 hs5
      have vdl := Bd.out.lt
      have vd0 := (Bd.out.2 0 _ rfl).1
      have vd1 := (Bd.out.2 1 _ rfl).1
      have vd2 := (Bd.out.2 2 _ rfl).1
      have vd3 := (Bd.out.2 3 _ rfl).1
      have vd4 := (Bd.out.2 4 _ rfl).1
      have vd5 := (Bd.out.2 5 _ rfl).1
      go_wp2_with fail
      refine (to_ri (CutWriter_x (HE.below EB.out (Nat.le_refl _)) EB.out.size d1.out d2.out d3.out (by omega) (by omega) (by omega) hcd hcd' hkd (by omega) (by omega) (by omega) (by unfold okInt; omega)) HO.out).mono ?_
      clear vdl vd0 vd1 vd2 vd3 vd4 vd5
      rintro e w3 ⟨Ax, nx, cx, Ax', nx', cx', Ex, mx, kx, rfl, ⟨hcx, hcx', hkx⟩, hb, hd, hd', hr⟩
      (try simp only [World.size_alloc, World.size_setCell, World.size_drew] at hb)
      have HB := Lib.hid hb
      clear hb
      have s3 := HB.out.size
      (try simp only [World.size_alloc, World.size_setCell, World.size_drew] at s3)
      replace d1 := Lib.hid (d1.out.below HB.out (by omega))
      replace d2 := Lib.hid (d2.out.below HB.out (by omega))
      replace d3 := Lib.hid (d3.out.below HB.out (by omega))
      replace Bd := Lib.hid (Bd.out.below HB.out (by omega))
      replace EB := Lib.hid (below_step HB.out EB.out (by omega))
      clear HB
      have x1 := Lib.hid hd
      have x2 := Lib.hid hd'
      have x3 := Lib.hid hr
      clear hd hd' hr
      have vdl := Bd.out.lt
      have vd0 := (Bd.out.2 0 _ rfl).1
      have vd1 := (Bd.out.2 1 _ rfl).1
      have vd2 := (Bd.out.2 2 _ rfl).1
      have vd3 := (Bd.out.2 3 _ rfl).1
      have vd4 := (Bd.out.2 4 _ rfl).1
      have vd5 := (Bd.out.2 5 _ rfl).1
      go_wp2_with fail
      clear vdl vd0 vd1 vd2 vd3 vd4 vd5
      replace d1 := Lib.hid (d1.out.alloc (by omega) (.cells #[.slice Ax nx cx, .int .i64 (P), .slice Ax' nx' cx', .int .i64 (Q), .slice Ex mx kx, .int .i64 (yd)] 27))
      replace d2 := Lib.hid (d2.out.alloc (by omega) (.cells #[.slice Ax nx cx, .int .i64 (P), .slice Ax' nx' cx', .int .i64 (Q), .slice Ex mx kx, .int .i64 (yd)] 27))
      replace d3 := Lib.hid (d3.out.alloc (by omega) (.cells #[.slice Ax nx cx, .int .i64 (P), .slice Ax' nx' cx', .int .i64 (Q), .slice Ex mx kx, .int .i64 (yd)] 27))
      replace Bd := Lib.hid (Bd.out.alloc (.cells #[.slice Ax nx cx, .int .i64 (P), .slice Ax' nx' cx', .int .i64 (Q), .slice Ex mx kx, .int .i64 (yd)] 27))
      replace x1 := Lib.hid (x1.out.alloc (by omega) (.cells #[.slice Ax nx cx, .int .i64 (P), .slice Ax' nx' cx', .int .i64 (Q), .slice Ex mx kx, .int .i64 (yd)] 27))
      replace x2 := Lib.hid (x2.out.alloc (by omega) (.cells #[.slice Ax nx cx, .int .i64 (P), .slice Ax' nx' cx', .int .i64 (Q), .slice Ex mx kx, .int .i64 (yd)] 27))
      replace x3 := Lib.hid (x3.out.alloc (by omega) (.cells #[.slice Ax nx cx, .int .i64 (P), .slice Ax' nx' cx', .int .i64 (Q), .slice Ex mx kx, .int .i64 (yd)] 27))
      replace EB := Lib.hid (EB.out.alloc (by omega) (.cells #[.slice Ax nx cx, .int .i64 (P), .slice Ax' nx' cx', .int .i64 (Q), .slice Ex mx kx, .int .i64 (yd)] 27))
      have Bx := Lib.hid (Box.new w3 27 [.slice Ax nx cx, .int .i64 (P), .slice Ax' nx' cx', .int .i64 (Q), .slice Ex mx kx, .int .i64 (yd)])
      have s4 : w3.heap.size + 1 ≤ (w3.alloc (.cells #[.slice Ax nx cx, .int .i64 (P), .slice Ax' nx' cx', .int .i64 (Q), .slice Ex mx kx, .int .i64 (yd)] 27)).heap.size := by simp
      generalize w3.alloc (.cells #[.slice Ax nx cx, .int .i64 (P), .slice Ax' nx' cx', .int .i64 (Q), .slice Ex mx kx, .int .i64 (yd)] 27) = w4 at *
      refine (to_ri (SCutWriter_x d1.out d2.out d3.out (by omega) (by omega) (by omega) hcd hcd' hkd (by omega) (by omega) (by omega) (by unfold okInt; omega)) HO.out).mono ?_
      rintro e w5 ⟨Ay, ny, cy, Ay', ny', cy', Ey, my, ky, rfl, ⟨hcy, hcy', hky⟩, hb, hd, hd', hr⟩
      (try simp only [World.size_alloc, World.size_setCell, World.size_drew] at hb)
      have HB := Lib.hid hb
      clear hb
      have s5 := HB.out.size
      (try simp only [World.size_alloc, World.size_setCell, World.size_drew] at s5)
      replace d1 := Lib.hid (d1.out.below HB.out (by omega))
      replace d2 := Lib.hid (d2.out.below HB.out (by omega))
      replace d3 := Lib.hid (d3.out.below HB.out (by omega))
      replace Bd := Lib.hid (Bd.out.below HB.out (by omega))
      replace x1 := Lib.hid (x1.out.below HB.out (by omega))
      replace x2 := Lib.hid (x2.out.below HB.out (by omega))
      replace x3 := Lib.hid (x3.out.below HB.out (by omega))
      replace Bx := Lib.hid (Bx.out.below HB.out (by omega))
      replace EB := Lib.hid (below_step HB.out EB.out (by omega))
      clear HB
      have y1 := Lib.hid hd
      have y2 := Lib.hid hd'
      have y3 := Lib.hid hr
      clear hd hd' hr
      have vxl := Bx.out.lt
      have vx0 := (Bx.out.2 0 _ rfl).1
      have vx1 := (Bx.out.2 1 _ rfl).1
      have vx2 := (Bx.out.2 2 _ rfl).1
      have vx3 := (Bx.out.2 3 _ rfl).1
      have vx4 := (Bx.out.2 4 _ rfl).1
      have vx5 := (Bx.out.2 5 _ rfl).1
      go_wp2_with fail
      clear vxl vx0 vx1 vx2 vx3 vx4 vx5
      replace d1 := Lib.hid (d1.out.alloc (by omega) (.cells #[.slice Ay ny cy, .int .i64 (P), .slice Ay' ny' cy', .int .i64 (Q), .slice Ey my ky, .int .i64 (yd)] 27))
      replace d2 := Lib.hid (d2.out.alloc (by omega) (.cells #[.slice Ay ny cy, .int .i64 (P), .slice Ay' ny' cy', .int .i64 (Q), .slice Ey my ky, .int .i64 (yd)] 27))
      replace d3 := Lib.hid (d3.out.alloc (by omega) (.cells #[.slice Ay ny cy, .int .i64 (P), .slice Ay' ny' cy', .int .i64 (Q), .slice Ey my ky, .int .i64 (yd)] 27))
      replace Bd := Lib.hid (Bd.out.alloc (.cells #[.slice Ay ny cy, .int .i64 (P), .slice Ay' ny' cy', .int .i64 (Q), .slice Ey my ky, .int .i64 (yd)] 27))
      replace x1 := Lib.hid (x1.out.alloc (by omega) (.cells #[.slice Ay ny cy, .int .i64 (P), .slice Ay' ny' cy', .int .i64 (Q), .slice Ey my ky, .int .i64 (yd)] 27))
      replace x2 := Lib.hid (x2.out.alloc (by omega) (.cells #[.slice Ay ny cy, .int .i64 (P), .slice Ay' ny' cy', .int .i64 (Q), .slice Ey my ky, .int .i64 (yd)] 27))
      replace x3 := Lib.hid (x3.out.alloc (by omega) (.cells #[.slice Ay ny cy, .int .i64 (P), .slice Ay' ny' cy', .int .i64 (Q), .slice Ey my ky, .int .i64 (yd)] 27))
      replace Bx := Lib.hid (Bx.out.alloc (.cells #[.slice Ay ny cy, .int .i64 (P), .slice Ay' ny' cy', .int .i64 (Q), .slice Ey my ky, .int .i64 (yd)] 27))
      replace y1 := Lib.hid (y1.out.alloc (by omega) (.cells #[.slice Ay ny cy, .int .i64 (P), .slice Ay' ny' cy', .int .i64 (Q), .slice Ey my ky, .int .i64 (yd)] 27))
      replace y2 := Lib.hid (y2.out.alloc (by omega) (.cells #[.slice Ay ny cy, .int .i64 (P), .slice Ay' ny' cy', .int .i64 (Q), .slice Ey my ky, .int .i64 (yd)] 27))
      replace y3 := Lib.hid (y3.out.alloc (by omega) (.cells #[.slice Ay ny cy, .int .i64 (P), .slice Ay' ny' cy', .int .i64 (Q), .slice Ey my ky, .int .i64 (yd)] 27))
      replace EB := Lib.hid (EB.out.alloc (by omega) (.cells #[.slice Ay ny cy, .int .i64 (P), .slice Ay' ny' cy', .int .i64 (Q), .slice Ey my ky, .int .i64 (yd)] 27))
      have By := Lib.hid (Box.new w5 27 [.slice Ay ny cy, .int .i64 (P), .slice Ay' ny' cy', .int .i64 (Q), .slice Ey my ky, .int .i64 (yd)])
      have s6 : w5.heap.size + 1 ≤ (w5.alloc (.cells #[.slice Ay ny cy, .int .i64 (P), .slice Ay' ny' cy', .int .i64 (Q), .slice Ey my ky, .int .i64 (yd)] 27)).heap.size := by simp
      generalize w5.alloc (.cells #[.slice Ay ny cy, .int .i64 (P), .slice Ay' ny' cy', .int .i64 (Q), .slice Ey my ky, .int .i64 (yd)] 27) = w6 at *
      refine (equalWriter_same x1.out x2.out x3.out y1.out y2.out y3.out (by omega) (by omega) (by omega) (by omega) (by omega) (by omega)).mono ?_
      rintro e w7 ⟨rfl, hb⟩
      (try simp only [World.size_alloc, World.size_setCell, World.size_drew] at hb)
      have HB := Lib.hid hb
      clear hb
      have s7 := HB.out.size
      (try simp only [World.size_alloc, World.size_setCell, World.size_drew] at s7)
      replace d1 := Lib.hid (d1.out.below HB.out (by omega))
      replace d2 := Lib.hid (d2.out.below HB.out (by omega))
      replace d3 := Lib.hid (d3.out.below HB.out (by omega))
      replace Bd := Lib.hid (Bd.out.below HB.out (by omega))
      replace x1 := Lib.hid (x1.out.below HB.out (by omega))
      replace x2 := Lib.hid (x2.out.below HB.out (by omega))
      replace x3 := Lib.hid (x3.out.below HB.out (by omega))
      replace Bx := Lib.hid (Bx.out.below HB.out (by omega))
      replace y1 := Lib.hid (y1.out.below HB.out (by omega))
      replace y2 := Lib.hid (y2.out.below HB.out (by omega))
      replace y3 := Lib.hid (y3.out.below HB.out (by omega))
      replace By := Lib.hid (By.out.below HB.out (by omega))
      replace EB := Lib.hid (below_step HB.out EB.out (by omega))
      clear HB
      have hxs := RL.out; have hxd := DL.out
      have hnx : nx ≤ 61 := by have h1 := x1.out.len; omega
      have hnx' : nx' ≤ 61 := by have h1 := x2.out.len; have h2 := d2.out.len; omega
      have hmx : mx ≤ 61 := by have h1 := x3.out.len; omega
      have vdl := Bd.out.lt
      have vd0 := (Bd.out.2 0 _ rfl).1
      have vd1 := (Bd.out.2 1 _ rfl).1
      have vd2 := (Bd.out.2 2 _ rfl).1
      have vd3 := (Bd.out.2 3 _ rfl).1
      have vd4 := (Bd.out.2 4 _ rfl).1
      have vd5 := (Bd.out.2 5 _ rfl).1
      go_wp2_with fail
      refine (to_listN (SeenData_x d1.out d2.out d3.out (by omega) (by omega) (by omega) hcd hcd' hkd (by omega) (by omega) (by omega)) SV.out).mono ?_
      clear vdl vd0 vd1 vd2 vd3 vd4 vd5
      rintro e w8 ⟨As, ns, cs, rfl, hcs, hb, hl⟩
      (try simp only [World.size_alloc, World.size_setCell, World.size_drew] at hb)
      have HB := Lib.hid hb
      clear hb
      have s8 := HB.out.size
      (try simp only [World.size_alloc, World.size_setCell, World.size_drew] at s8)
      replace d1 := Lib.hid (d1.out.below HB.out (by omega))
      replace d2 := Lib.hid (d2.out.below HB.out (by omega))
      replace d3 := Lib.hid (d3.out.below HB.out (by omega))
      replace Bd := Lib.hid (Bd.out.below HB.out (by omega))
      replace x1 := Lib.hid (x1.out.below HB.out (by omega))
      replace x2 := Lib.hid (x2.out.below HB.out (by omega))
      replace x3 := Lib.hid (x3.out.below HB.out (by omega))
      replace Bx := Lib.hid (Bx.out.below HB.out (by omega))
      replace y1 := Lib.hid (y1.out.below HB.out (by omega))
      replace y2 := Lib.hid (y2.out.below HB.out (by omega))
      replace y3 := Lib.hid (y3.out.below HB.out (by omega))
      replace By := Lib.hid (By.out.below HB.out (by omega))
      replace EB := Lib.hid (below_step HB.out EB.out (by omega))
      clear HB
      have s1 := Lib.hid hl
      clear hl
      have hmz : mx = 0 := by rw [x3.out.len, RZ.out]; rfl
      subst hmz
      have hnx2 : nx = N := by have h1 := x1.out.len; have h2 := DN.out; omega
      subst hnx2
      have PR2 : Hid ((V.take (min nx ns)).isPrefixOf D1 = true) := by show _ = _; rw [s1.out.len]; exact PRE.out
      by_cases hns : ns < nx
      · have hmin : min nx ns = ns := by omega
        have PR3 := Lib.hid PR2.out
        have PR4 : Hid ((V.take ns).isPrefixOf D1 = true) := by have h := PR2.out; rw [hmin] at h; exact h
        clear hmin PR3
        have hkn : ns ≤ ns := by omega
        have hkni : ((ns : Nat) : Int) ≤ (ns : Int) := by omega
        have hknc : ((ns : Nat) : Int) ≤ (cs : Int) := by omega
        have hk0 : (0 : Int) ≤ ((ns : Nat) : Int) := by omega
        have vxl := Bx.out.lt
        have vx0 := (Bx.out.2 0 _ rfl).1
        have vx1 := (Bx.out.2 1 _ rfl).1
        have vx2 := (Bx.out.2 2 _ rfl).1
        have vx3 := (Bx.out.2 3 _ rfl).1
        have vx4 := (Bx.out.2 4 _ rfl).1
        have vx5 := (Bx.out.2 5 _ rfl).1
        have vdl := Bd.out.lt
        have vd0 := (Bd.out.2 0 _ rfl).1
        have vd1 := (Bd.out.2 1 _ rfl).1
        have vd2 := (Bd.out.2 2 _ rfl).1
        have vd3 := (Bd.out.2 3 _ rfl).1
        have vd4 := (Bd.out.2 4 _ rfl).1
        have vd5 := (Bd.out.2 5 _ rfl).1
        go_wp2_with fail
        refine wp_region_held_drew (S := (fun w' => (w'.cell? ⟨w3.heap.size, 0, none⟩ = some (.slice Ax nx cx) ∧ w'.cell? ⟨w3.heap.size, 1, none⟩ = some (.int .i64 (P)) ∧ w'.cell? ⟨w3.heap.size, 2, none⟩ = some (.slice Ax' nx' cx') ∧ w'.cell? ⟨w3.heap.size, 3, none⟩ = some (.int .i64 (Q)) ∧ w'.cell? ⟨w3.heap.size, 4, none⟩ = some (.slice Ex 0 kx) ∧ w'.cell? ⟨w3.heap.size, 5, none⟩ = some (.int .i64 (yd))) ∧ (w'.cell? ⟨w1.heap.size, 0, none⟩ = some (.slice Ad nd cd) ∧ w'.cell? ⟨w1.heap.size, 1, none⟩ = some (.int .i64 (pd)) ∧ w'.cell? ⟨w1.heap.size, 2, none⟩ = some (.slice Ad' nd' cd') ∧ w'.cell? ⟨w1.heap.size, 3, none⟩ = some (.int .i64 (qd)) ∧ w'.cell? ⟨w1.heap.size, 4, none⟩ = some (.slice Ed md kd) ∧ w'.cell? ⟨w1.heap.size, 5, none⟩ = some (.int .i64 (yd))))) (by kernel_rfl) (by (try dsimp only); go_keep) (fun hHeld => ?_)
        refine wpAnyH_take (i := 0) (oi := ?oi171) (v := ?v171) ?hi171 (by kernel_rfl) (by kernel_rfl) (by kernel_rfl) ?hq171 (Or.inl ⟨?hw171, ?hy171⟩) (by assumption) ?_
        case hi171 => simp only [List.getElem?_toArray, List.getElem?_cons_succ, List.getElem?_cons_zero]; rfl
        case hw171 => rfl
        case hq171 => exact fun _ _ _ h => h
        case hy171 => intro w hSw; (try dsimp only at hSw); go_simp; (try with_reducible rfl)
        (try simp only [Act.put, List.setIfInBounds_toArray, List.set_cons_zero, List.set_cons_succ])
        refine wpAnyH_take (i := 1) (oi := ?oi172) (v := ?v172) ?hi172 (by kernel_rfl) (by kernel_rfl) (by kernel_rfl) ?hq172 (Or.inl ⟨?hw172, ?hy172⟩) (by assumption) ?_
        case hi172 => simp only [List.getElem?_toArray, List.getElem?_cons_succ, List.getElem?_cons_zero]; rfl
        case hw172 => rfl
        case hq172 => exact fun _ _ _ h => h
        case hy172 => intro w hSw; (try dsimp only at hSw); go_simp; (try with_reducible rfl)
        (try simp only [Act.put, List.setIfInBounds_toArray, List.set_cons_zero, List.set_cons_succ])
        refine wpAnyH_take (i := 2) (oi := ?oi173) (v := ?v173) ?hi173 (by kernel_rfl) (by kernel_rfl) (by kernel_rfl) ?hq173 (Or.inl ⟨?hw173, ?hy173⟩) (by assumption) ?_
        case hi173 => simp only [List.getElem?_toArray, List.getElem?_cons_succ, List.getElem?_cons_zero]; rfl
        case hw173 => rfl
        case hq173 => exact fun _ _ _ h => h
        case hy173 => intro w hSw; (try dsimp only at hSw); go_simp; (try with_reducible rfl)
        (try simp only [Act.put, List.setIfInBounds_toArray, List.set_cons_zero, List.set_cons_succ])
        refine wpAnyH_take (i := 3) (oi := ?oi174) (v := ?v174) ?hi174 (by kernel_rfl) (by kernel_rfl) (by kernel_rfl) ?hq174 (Or.inl ⟨?hw174, ?hy174⟩) (by assumption) ?_
        case hi174 => simp only [List.getElem?_toArray, List.getElem?_cons_succ, List.getElem?_cons_zero]; rfl
        case hw174 => rfl
        case hq174 => exact fun _ _ _ h => h
        case hy174 => intro w hSw; (try dsimp only at hSw); go_simp; (try with_reducible rfl)
        (try simp only [Act.put, List.setIfInBounds_toArray, List.set_cons_zero, List.set_cons_succ])
        refine wpAnyH_take (i := 4) (oi := ?oi175) (v := ?v175) ?hi175 (by kernel_rfl) (by kernel_rfl) (by kernel_rfl) ?hq175 (Or.inl ⟨?hw175, ?hy175⟩) (by assumption) ?_
        case hi175 => simp only [List.getElem?_toArray, List.getElem?_cons_succ, List.getElem?_cons_zero]; rfl
        case hw175 => rfl
        case hq175 => exact fun _ _ _ h => h
        case hy175 => intro w hSw; (try dsimp only at hSw); go_simp; (try with_reducible rfl)
        (try simp only [Act.put, List.setIfInBounds_toArray, List.set_cons_zero, List.set_cons_succ])
        refine wpAnyH_take (i := 5) (oi := ?oi176) (v := ?v176) ?hi176 (by kernel_rfl) (by kernel_rfl) (by kernel_rfl) ?hq176 (Or.inl ⟨?hw176, ?hy176⟩) (by assumption) ?_
        case hi176 => simp only [List.getElem?_toArray, List.getElem?_cons_succ, List.getElem?_cons_zero]; rfl
        case hw176 => rfl
        case hq176 => exact fun _ _ _ h => h
        case hy176 => intro w hSw; (try dsimp only at hSw); go_simp; (try with_reducible rfl)
        (try simp only [Act.put, List.setIfInBounds_toArray, List.set_cons_zero, List.set_cons_succ])
        refine wpAnyH_take (i := 6) (oi := ?oi177) (v := ?v177) ?hi177 (by kernel_rfl) (by kernel_rfl) (by kernel_rfl) ?hq177 (Or.inl ⟨?hw177, ?hy177⟩) (by assumption) ?_
        case hi177 => simp only [List.getElem?_toArray, List.getElem?_cons_succ, List.getElem?_cons_zero]; rfl
        case hw177 => rfl
        case hq177 => exact fun _ _ _ h => h
        case hy177 => intro w hSw; (try dsimp only at hSw); go_simp; (try with_reducible rfl)
        (try simp only [Act.put, List.setIfInBounds_toArray, List.set_cons_zero, List.set_cons_succ])
        refine wpAnyH_take (i := 7) (oi := ?oi178) (v := ?v178) ?hi178 (by kernel_rfl) (by kernel_rfl) (by kernel_rfl) ?hq178 (Or.inl ⟨?hw178, ?hy178⟩) (by assumption) ?_
        case hi178 => simp only [List.getElem?_toArray, List.getElem?_cons_succ, List.getElem?_cons_zero]; rfl
        case hw178 => rfl
        case hq178 => exact fun _ _ _ h => h
        case hy178 => intro w hSw; (try dsimp only at hSw); go_simp; (try with_reducible rfl)
        (try simp only [Act.put, List.setIfInBounds_toArray, List.set_cons_zero, List.set_cons_succ])
        refine wpAnyH_take (i := 8) (oi := ?oi179) (v := ?v179) ?hi179 (by kernel_rfl) (by kernel_rfl) (by kernel_rfl) ?hq179 (Or.inl ⟨?hw179, ?hy179⟩) (by assumption) ?_
        case hi179 => simp only [List.getElem?_toArray, List.getElem?_cons_succ, List.getElem?_cons_zero]; rfl
        case hw179 => rfl
        case hq179 => exact fun _ _ _ h => h
        case hy179 => intro w hSw; (try dsimp only at hSw); go_simp; (try with_reducible rfl)
        (try simp only [Act.put, List.setIfInBounds_toArray, List.set_cons_zero, List.set_cons_succ])
        refine wpAnyH_take (i := 9) (oi := ?oi180) (v := ?v180) ?hi180 (by kernel_rfl) (by kernel_rfl) (by kernel_rfl) ?hq180 (Or.inl ⟨?hw180, ?hy180⟩) (by assumption) ?_
        case hi180 => simp only [List.getElem?_toArray, List.getElem?_cons_succ, List.getElem?_cons_zero]; rfl
        case hw180 => rfl
        case hq180 => exact fun _ _ _ h => h
        case hy180 => intro w hSw; (try dsimp only at hSw); go_simp; (try with_reducible rfl)
        (try simp only [Act.put, List.setIfInBounds_toArray, List.set_cons_zero, List.set_cons_succ])
        refine wpAnyH_take (i := 10) (oi := ?oi181) (v := ?v181) ?hi181 (by kernel_rfl) (by kernel_rfl) (by kernel_rfl) ?hq181 (Or.inl ⟨?hw181, ?hy181⟩) (by assumption) ?_
        case hi181 => simp only [List.getElem?_toArray, List.getElem?_cons_succ, List.getElem?_cons_zero]; rfl
        case hw181 => rfl
        case hq181 => exact fun _ _ _ h => h
        case hy181 => intro w hSw; (try dsimp only at hSw); go_simp; (try with_reducible rfl)
        (try simp only [Act.put, List.setIfInBounds_toArray, List.set_cons_zero, List.set_cons_succ])
        refine wpAnyH_take (i := 11) (oi := ?oi182) (v := ?v182) ?hi182 (by kernel_rfl) (by kernel_rfl) (by kernel_rfl) ?hq182 (Or.inl ⟨?hw182, ?hy182⟩) (by assumption) ?_
        case hi182 => simp only [List.getElem?_toArray, List.getElem?_cons_succ, List.getElem?_cons_zero]; rfl
        case hw182 => rfl
        case hq182 => exact fun _ _ _ h => h
        case hy182 => intro w hSw; (try dsimp only at hSw); go_simp; (try with_reducible rfl)
        (try simp only [Act.put, List.setIfInBounds_toArray, List.set_cons_zero, List.set_cons_succ])
        refine wpAnyH_take (i := 12) (oi := ?oi183) (v := ?v183) ?hi183 (by kernel_rfl) (by kernel_rfl) (by kernel_rfl) ?hq183 (Or.inl ⟨?hw183, ?hy183⟩) (by assumption) ?_
        case hi183 => simp only [List.getElem?_toArray, List.getElem?_cons_succ, List.getElem?_cons_zero]; rfl
        case hw183 => rfl
        case hq183 => exact fun _ _ _ h => h
        case hy183 => intro w hSw; (try dsimp only at hSw); go_simp; (try with_reducible rfl)
        (try simp only [Act.put, List.setIfInBounds_toArray, List.set_cons_zero, List.set_cons_succ])
        refine wpAnyH_take (i := 13) (oi := ?oi184) (v := ?v184) ?hi184 (by kernel_rfl) (by kernel_rfl) (by kernel_rfl) ?hq184 (Or.inl ⟨?hw184, ?hy184⟩) (by assumption) ?_
        case hi184 => simp only [List.getElem?_toArray, List.getElem?_cons_succ, List.getElem?_cons_zero]; rfl
        case hw184 => rfl
        case hq184 => exact fun _ _ _ h => h
        case hy184 => intro w hSw; (try dsimp only at hSw); go_simp; (try with_reducible rfl)
        (try simp only [Act.put, List.setIfInBounds_toArray, List.set_cons_zero, List.set_cons_succ])
        refine wpAnyH_take (i := 14) (oi := ?oi185) (v := ?v185) ?hi185 (by kernel_rfl) (by kernel_rfl) (by kernel_rfl) ?hq185 (Or.inl ⟨?hw185, ?hy185⟩) (by assumption) ?_
        case hi185 => simp only [List.getElem?_toArray, List.getElem?_cons_succ, List.getElem?_cons_zero]; rfl
        case hw185 => rfl
        case hq185 => exact fun _ _ _ h => h
        case hy185 => intro w hSw; (try dsimp only at hSw); go_simp; (try with_reducible rfl)
        (try simp only [Act.put, List.setIfInBounds_toArray, List.set_cons_zero, List.set_cons_succ])
        refine wpAnyH_take (i := 15) (oi := ?oi186) (v := ?v186) ?hi186 (by kernel_rfl) (by kernel_rfl) (by kernel_rfl) ?hq186 (Or.inl ⟨?hw186, ?hy186⟩) (by assumption) ?_
        case hi186 => simp only [List.getElem?_toArray, List.getElem?_cons_succ, List.getElem?_cons_zero]; rfl
        case hw186 => rfl
        case hq186 => exact fun _ _ _ h => h
        case hy186 => intro w hSw; (try dsimp only at hSw); go_simp; (try with_reducible rfl)
        (try simp only [Act.put, List.setIfInBounds_toArray, List.set_cons_zero, List.set_cons_succ])
        refine wpAnyH_take (i := 16) (oi := ?oi187) (v := ?v187) ?hi187 (by kernel_rfl) (by kernel_rfl) (by kernel_rfl) ?hq187 (Or.inl ⟨?hw187, ?hy187⟩) (by assumption) ?_
        case hi187 => simp only [List.getElem?_toArray, List.getElem?_cons_succ, List.getElem?_cons_zero]; rfl
        case hw187 => rfl
        case hq187 => exact fun _ _ _ h => h
        case hy187 => intro w hSw; (try dsimp only at hSw); go_simp; (try with_reducible rfl)
        (try simp only [Act.put, List.setIfInBounds_toArray, List.set_cons_zero, List.set_cons_succ])
        refine wpAnyH_take (i := 17) (oi := ?oi188) (v := ?v188) ?hi188 (by kernel_rfl) (by kernel_rfl) (by kernel_rfl) ?hq188 (Or.inl ⟨?hw188, ?hy188⟩) (by assumption) ?_
        case hi188 => simp only [List.getElem?_toArray, List.getElem?_cons_succ, List.getElem?_cons_zero]; rfl
        case hw188 => rfl
        case hq188 => exact fun _ _ _ h => h
        case hy188 => intro w hSw; (try dsimp only at hSw); go_simp; (try with_reducible rfl)
        (try simp only [Act.put, List.setIfInBounds_toArray, List.set_cons_zero, List.set_cons_succ])
        refine wpAnyH_take (i := 18) (oi := ?oi189) (v := ?v189) ?hi189 (by kernel_rfl) (by kernel_rfl) (by kernel_rfl) ?hq189 (Or.inl ⟨?hw189, ?hy189⟩) (by assumption) ?_
        case hi189 => simp only [List.getElem?_toArray, List.getElem?_cons_succ, List.getElem?_cons_zero]; rfl
        case hw189 => rfl
        case hq189 => exact fun _ _ _ h => h
        case hy189 => intro w hSw; (try dsimp only at hSw); go_simp; (try with_reducible rfl)
        (try simp only [Act.put, List.setIfInBounds_toArray, List.set_cons_zero, List.set_cons_succ])
        refine wpAnyH_ready (rs := [19]) (by kernel_rfl) (by simp) ?_
        refine AllReadyH.cons (o := ?o190) ?ho190 (fun K hK => ?_) AllReadyH.nil
        case ho190 => simp only [List.getElem?_toArray, List.getElem?_cons_succ, List.getElem?_cons_zero]; rfl
        go_simp
        (go_at_call 29; (with_reducible refine (begins_same x1.out.drew (s1.out.drew.take (m := ns) hkn) hcx PR4.out).mono ?_); rintro e wg10 ⟨rfl, hb⟩; (try simp only [World.size_alloc, World.size_setCell, World.size_drew] at hb); have HRg10 := Lib.hid hb; have srg10 := hb.size; (try simp only [World.size_alloc, World.size_setCell, World.size_drew] at srg10); have Yxg10 := Lib.hid (Bx.out.drew.below hb (by omega)); have Ydg10 := Lib.hid (Bd.out.drew.below hb (by omega)); clear hb; have vx0 := (Yxg10.out.2 0 _ rfl).1; have vx1 := (Yxg10.out.2 1 _ rfl).1; have vx2 := (Yxg10.out.2 2 _ rfl).1; have vx3 := (Yxg10.out.2 3 _ rfl).1; have vx4 := (Yxg10.out.2 4 _ rfl).1; have vx5 := (Yxg10.out.2 5 _ rfl).1; have vd0 := (Ydg10.out.2 0 _ rfl).1; have vd1 := (Ydg10.out.2 1 _ rfl).1; have vd2 := (Ydg10.out.2 2 _ rfl).1; have vd3 := (Ydg10.out.2 3 _ rfl).1; have vd4 := (Ydg10.out.2 4 _ rfl).1; have vd5 := (Ydg10.out.2 5 _ rfl).1)
        clear hHeld
        refine hK.out _ _ (by (try dsimp only); go_keep) (fun hHeld => ?_)
        clear hK K
        (try simp only [Act.put, List.setIfInBounds_toArray, List.set_cons_zero, List.set_cons_succ])
        refine wpAnyH_take (i := 20) (oi := ?oi191) (v := ?v191) ?hi191 (by kernel_rfl) (by kernel_rfl) (by kernel_rfl) ?hq191 (Or.inl ⟨?hw191, ?hy191⟩) (by assumption) ?_
        case hi191 => simp only [List.getElem?_toArray, List.getElem?_cons_succ, List.getElem?_cons_zero]; rfl
        case hw191 => rfl
        case hq191 => exact fun _ _ _ h => h
        case hy191 => intro w hSw; (try dsimp only at hSw); go_simp; (try with_reducible rfl)
        (try simp only [Act.put, List.setIfInBounds_toArray, List.set_cons_zero, List.set_cons_succ])
        refine wpAnyH_take (i := 21) (oi := ?oi192) (v := ?v192) ?hi192 (by kernel_rfl) (by kernel_rfl) (by kernel_rfl) ?hq192 (Or.inl ⟨?hw192, ?hy192⟩) (by assumption) ?_
        case hi192 => simp only [List.getElem?_toArray, List.getElem?_cons_succ, List.getElem?_cons_zero]; rfl
        case hw192 => rfl
        case hq192 => exact fun _ _ _ h => h
        case hy192 => intro w hSw; (try dsimp only at hSw); go_simp; (try with_reducible rfl)
        (try simp only [Act.put, List.setIfInBounds_toArray, List.set_cons_zero, List.set_cons_succ])
        refine wpAnyH_take (i := 22) (oi := ?oi193) (v := ?v193) ?hi193 (by kernel_rfl) (by kernel_rfl) (by kernel_rfl) ?hq193 (Or.inl ⟨?hw193, ?hy193⟩) (by assumption) ?_
        case hi193 => simp only [List.getElem?_toArray, List.getElem?_cons_succ, List.getElem?_cons_zero]; rfl
        case hw193 => rfl
        case hq193 => exact fun _ _ _ h => h
        case hy193 => intro w hSw; (try dsimp only at hSw); go_simp; (try with_reducible rfl)
        (try simp only [Act.put, List.setIfInBounds_toArray, List.set_cons_zero, List.set_cons_succ])
        refine wpAnyH_take (i := 23) (oi := ?oi194) (v := ?v194) ?hi194 (by kernel_rfl) (by kernel_rfl) (by kernel_rfl) ?hq194 (Or.inl ⟨?hw194, ?hy194⟩) (by assumption) ?_
        case hi194 => simp only [List.getElem?_toArray, List.getElem?_cons_succ, List.getElem?_cons_zero]; rfl
        case hw194 => rfl
        case hq194 => exact fun _ _ _ h => h
        case hy194 => intro w hSw; (try dsimp only at hSw); go_simp; (try with_reducible rfl)
        (try simp only [Act.put, List.setIfInBounds_toArray, List.set_cons_zero, List.set_cons_succ])
        refine wpAnyH_take (i := 24) (oi := ?oi195) (v := ?v195) ?hi195 (by kernel_rfl) (by kernel_rfl) (by kernel_rfl) ?hq195 (Or.inl ⟨?hw195, ?hy195⟩) (by assumption) ?_
        case hi195 => simp only [List.getElem?_toArray, List.getElem?_cons_succ, List.getElem?_cons_zero]; rfl
        case hw195 => rfl
        case hq195 => exact fun _ _ _ h => h
        case hy195 => intro w hSw; (try dsimp only at hSw); go_simp; (try with_reducible rfl)
        (try simp only [Act.put, List.setIfInBounds_toArray, List.set_cons_zero, List.set_cons_succ])
        refine wpAnyH_take (i := 25) (oi := ?oi196) (v := ?v196) ?hi196 (by kernel_rfl) (by kernel_rfl) (by kernel_rfl) ?hq196 (Or.inl ⟨?hw196, ?hy196⟩) (by assumption) ?_
        case hi196 => simp only [List.getElem?_toArray, List.getElem?_cons_succ, List.getElem?_cons_zero]; rfl
        case hw196 => rfl
        case hq196 => exact fun _ _ _ h => h
        case hy196 => intro w hSw; (try dsimp only at hSw); go_simp; (try with_reducible rfl)
        (try simp only [Act.put, List.setIfInBounds_toArray, List.set_cons_zero, List.set_cons_succ])
        refine wpAnyH_take (i := 26) (oi := ?oi197) (v := ?v197) ?hi197 (by kernel_rfl) (by kernel_rfl) (by kernel_rfl) ?hq197 (Or.inl ⟨?hw197, ?hy197⟩) (by assumption) ?_
        case hi197 => simp only [List.getElem?_toArray, List.getElem?_cons_succ, List.getElem?_cons_zero]; rfl
        case hw197 => rfl
        case hq197 => exact fun _ _ _ h => h
        case hy197 => intro w hSw; (try dsimp only at hSw); go_simp; (try with_reducible rfl)
        (try simp only [Act.put, List.setIfInBounds_toArray, List.set_cons_zero, List.set_cons_succ])
        refine wpAnyH_take (i := 27) (oi := ?oi198) (v := ?v198) ?hi198 (by kernel_rfl) (by kernel_rfl) (by kernel_rfl) ?hq198 (Or.inl ⟨?hw198, ?hy198⟩) (by assumption) ?_
        case hi198 => simp only [List.getElem?_toArray, List.getElem?_cons_succ, List.getElem?_cons_zero]; rfl
        case hw198 => rfl
        case hq198 => exact fun _ _ _ h => h
        case hy198 => intro w hSw; (try dsimp only at hSw); go_simp; (try with_reducible rfl)
        (try simp only [Act.put, List.setIfInBounds_toArray, List.set_cons_zero, List.set_cons_succ])
        refine wpAnyH_take (i := 28) (oi := ?oi199) (v := ?v199) ?hi199 (by kernel_rfl) (by kernel_rfl) (by kernel_rfl) ?hq199 (Or.inl ⟨?hw199, ?hy199⟩) (by assumption) ?_
        case hi199 => simp only [List.getElem?_toArray, List.getElem?_cons_succ, List.getElem?_cons_zero]; rfl
        case hw199 => rfl
        case hq199 => exact fun _ _ _ h => h
        case hy199 => intro w hSw; (try dsimp only at hSw); go_simp; (try with_reducible rfl)
        (try simp only [Act.put, List.setIfInBounds_toArray, List.set_cons_zero, List.set_cons_succ])
        refine wpAnyH_take (i := 30) (oi := ?oi200) (v := ?v200) ?hi200 (by kernel_rfl) (by kernel_rfl) (by kernel_rfl) ?hq200 (Or.inl ⟨?hw200, ?hy200⟩) (by assumption) ?_
        case hi200 => simp only [List.getElem?_toArray, List.getElem?_cons_succ, List.getElem?_cons_zero]; rfl
        case hw200 => rfl
        case hq200 => exact fun _ _ _ h => h
        case hy200 => intro w hSw; (try dsimp only at hSw); go_simp; (try with_reducible rfl)
        (try simp only [Act.put, List.setIfInBounds_toArray, List.set_cons_zero, List.set_cons_succ])
        refine wpAnyH_ready (rs := [29]) (by kernel_rfl) (by simp) ?_
        refine AllReadyH.cons (o := ?o201) ?ho201 (fun K hK => ?_) AllReadyH.nil
        case ho201 => simp only [List.getElem?_toArray, List.getElem?_cons_succ, List.getElem?_cons_zero]; rfl
        go_simp
        (go_at_call 22; (with_reducible refine (to_intN (TellWriter_x (x1.out.drew.below HRg10.out (by first | omega | (simp; omega) | (simp; done))) (x2.out.drew.below HRg10.out (by first | omega | (simp; omega) | (simp; done))) (x3.out.drew.below HRg10.out (by first | omega | (simp; omega) | (simp; done))) (by first | omega | (simp; omega) | (simp; done)) (by first | omega | (simp; omega) | (simp; done)) (by first | omega | (simp; omega) | (simp; done)) hcx) TX.out).mono ?_); rintro e wg11 ⟨rfl, hb⟩; (try simp only [World.size_alloc, World.size_setCell, World.size_drew] at hb); have HRg11 := Lib.hid hb; have srg11 := hb.size; (try simp only [World.size_alloc, World.size_setCell, World.size_drew] at srg11); have Yxg11 := Lib.hid (Yxg10.out.below hb (by omega)); have Ydg11 := Lib.hid (Ydg10.out.below hb (by omega)); clear hb; have vx0 := (Yxg11.out.2 0 _ rfl).1; have vx1 := (Yxg11.out.2 1 _ rfl).1; have vx2 := (Yxg11.out.2 2 _ rfl).1; have vx3 := (Yxg11.out.2 3 _ rfl).1; have vx4 := (Yxg11.out.2 4 _ rfl).1; have vx5 := (Yxg11.out.2 5 _ rfl).1; have vd0 := (Ydg11.out.2 0 _ rfl).1; have vd1 := (Ydg11.out.2 1 _ rfl).1; have vd2 := (Ydg11.out.2 2 _ rfl).1; have vd3 := (Ydg11.out.2 3 _ rfl).1; have vd4 := (Ydg11.out.2 4 _ rfl).1; have vd5 := (Ydg11.out.2 5 _ rfl).1)
        clear hHeld
        refine hK.out _ _ (by (try dsimp only); go_keep) (fun hHeld => ?_)
        clear hK K
        (try simp only [Act.put, List.setIfInBounds_toArray, List.set_cons_zero, List.set_cons_succ])
        refine wpAnyH_ready (rs := [31]) (by kernel_rfl) (by simp) ?_
        refine AllReadyH.cons (o := ?o202) ?ho202 (fun K hK => ?_) AllReadyH.nil
        case ho202 => simp only [List.getElem?_toArray, List.getElem?_cons_succ, List.getElem?_cons_zero]; rfl
        go_simp
        (go_at_call 22; (with_reducible refine (to_intN (TellWriter_x ((d1.out.drew.below HRg10.out (by first | omega | (simp; omega) | (simp; done))).below HRg11.out (by first | omega | (simp; omega) | (simp; done))) ((d2.out.drew.below HRg10.out (by first | omega | (simp; omega) | (simp; done))).below HRg11.out (by first | omega | (simp; omega) | (simp; done))) ((d3.out.drew.below HRg10.out (by first | omega | (simp; omega) | (simp; done))).below HRg11.out (by first | omega | (simp; omega) | (simp; done))) (by first | omega | (simp; omega) | (simp; done)) (by first | omega | (simp; omega) | (simp; done)) (by first | omega | (simp; omega) | (simp; done)) hcd) TV.out).mono ?_); rintro e wg12 ⟨rfl, hb⟩; (try simp only [World.size_alloc, World.size_setCell, World.size_drew] at hb); have HRg12 := Lib.hid hb; have srg12 := hb.size; (try simp only [World.size_alloc, World.size_setCell, World.size_drew] at srg12); have Yxg12 := Lib.hid (Yxg11.out.below hb (by omega)); have Ydg12 := Lib.hid (Ydg11.out.below hb (by omega)); clear hb; have vx0 := (Yxg12.out.2 0 _ rfl).1; have vx1 := (Yxg12.out.2 1 _ rfl).1; have vx2 := (Yxg12.out.2 2 _ rfl).1; have vx3 := (Yxg12.out.2 3 _ rfl).1; have vx4 := (Yxg12.out.2 4 _ rfl).1; have vx5 := (Yxg12.out.2 5 _ rfl).1; have vd0 := (Ydg12.out.2 0 _ rfl).1; have vd1 := (Ydg12.out.2 1 _ rfl).1; have vd2 := (Ydg12.out.2 2 _ rfl).1; have vd3 := (Ydg12.out.2 3 _ rfl).1; have vd4 := (Ydg12.out.2 4 _ rfl).1; have vd5 := (Ydg12.out.2 5 _ rfl).1)
        clear hHeld
        refine hK.out _ _ (by (try dsimp only); go_keep) (fun hHeld => ?_)
        clear hK K
        (try simp only [Act.put, List.setIfInBounds_toArray, List.set_cons_zero, List.set_cons_succ])
        refine wpAnyH_take (i := 32) (oi := ?oi203) (v := ?v203) ?hi203 (by kernel_rfl) (by kernel_rfl) (by kernel_rfl) ?hq203 (Or.inl ⟨?hw203, ?hy203⟩) (by assumption) ?_
        case hi203 => simp only [List.getElem?_toArray, List.getElem?_cons_succ, List.getElem?_cons_zero]; rfl
        case hw203 => rfl
        case hq203 => exact fun _ _ _ h => h
        case hy203 => intro w hSw; (try dsimp only at hSw); go_simp; (try with_reducible rfl)
        (try simp only [Act.put, List.setIfInBounds_toArray, List.set_cons_zero, List.set_cons_succ])
        refine wpAnyH_take (i := 33) (oi := ?oi204) (v := ?v204) ?hi204 (by kernel_rfl) (by kernel_rfl) (by kernel_rfl) ?hq204 (Or.inl ⟨?hw204, ?hy204⟩) (by assumption) ?_
        case hi204 => simp only [List.getElem?_toArray, List.getElem?_cons_succ, List.getElem?_cons_zero]; rfl
        case hw204 => rfl
        case hq204 => exact fun _ _ _ h => h
        case hy204 => intro w hSw; (try dsimp only at hSw); go_simp; (try with_reducible rfl)
        (try simp only [Act.put, List.setIfInBounds_toArray, List.set_cons_zero, List.set_cons_succ])
        refine wpAnyH_take (i := 34) (oi := ?oi205) (v := ?v205) ?hi205 (by kernel_rfl) (by kernel_rfl) (by kernel_rfl) ?hq205 (Or.inl ⟨?hw205, ?hy205⟩) (by assumption) ?_
        case hi205 => simp only [List.getElem?_toArray, List.getElem?_cons_succ, List.getElem?_cons_zero]; rfl
        case hw205 => rfl
        case hq205 => exact fun _ _ _ h => h
        case hy205 => intro w hSw; (try dsimp only at hSw); go_simp; (try with_reducible rfl)
        (try simp only [Act.put, List.setIfInBounds_toArray, List.set_cons_zero, List.set_cons_succ])
        refine wpAnyH_take (i := 35) (oi := ?oi206) (v := ?v206) ?hi206 (by kernel_rfl) (by kernel_rfl) (by kernel_rfl) ?hq206 (Or.inl ⟨?hw206, ?hy206⟩) (by assumption) ?_
        case hi206 => simp only [List.getElem?_toArray, List.getElem?_cons_succ, List.getElem?_cons_zero]; rfl
        case hw206 => rfl
        case hq206 => exact fun _ _ _ h => h
        case hy206 => intro w hSw; (try dsimp only at hSw); go_simp; (try with_reducible rfl)
        (try simp only [Act.put, List.setIfInBounds_toArray, List.set_cons_zero, List.set_cons_succ])
        refine wpAnyH_done (by kernel_rfl) ?_ _
        go_wp2
        go_ret
        exact ⟨rfl, (below_step HRg12.out (below_step HRg11.out (below_step HRg10.out EB.out.drew (by first | omega | (simp; omega) | (simp; done))) (by first | omega | (simp; omega) | (simp; done))) (by first | omega | (simp; omega) | (simp; done)))⟩
      · have hmin : min nx ns = nx := by omega
        have PR3 := Lib.hid PR2.out
        have PR4 : Hid ((V.take nx).isPrefixOf D1 = true) := by have h := PR2.out; rw [hmin] at h; exact h
        clear hmin PR3
        have hkn : nx ≤ ns := by omega
        have hkni : ((nx : Nat) : Int) ≤ (ns : Int) := by omega
        have hknc : ((nx : Nat) : Int) ≤ (cs : Int) := by omega
        have hk0 : (0 : Int) ≤ ((nx : Nat) : Int) := by omega
        have vxl := Bx.out.lt
        have vx0 := (Bx.out.2 0 _ rfl).1
        have vx1 := (Bx.out.2 1 _ rfl).1
        have vx2 := (Bx.out.2 2 _ rfl).1
        have vx3 := (Bx.out.2 3 _ rfl).1
        have vx4 := (Bx.out.2 4 _ rfl).1
        have vx5 := (Bx.out.2 5 _ rfl).1
        have vdl := Bd.out.lt
        have vd0 := (Bd.out.2 0 _ rfl).1
        have vd1 := (Bd.out.2 1 _ rfl).1
        have vd2 := (Bd.out.2 2 _ rfl).1
        have vd3 := (Bd.out.2 3 _ rfl).1
        have vd4 := (Bd.out.2 4 _ rfl).1
        have vd5 := (Bd.out.2 5 _ rfl).1
        go_wp2_with fail
        refine wp_region_held_drew (S := (fun w' => (w'.cell? ⟨w3.heap.size, 0, none⟩ = some (.slice Ax nx cx) ∧ w'.cell? ⟨w3.heap.size, 1, none⟩ = some (.int .i64 (P)) ∧ w'.cell? ⟨w3.heap.size, 2, none⟩ = some (.slice Ax' nx' cx') ∧ w'.cell? ⟨w3.heap.size, 3, none⟩ = some (.int .i64 (Q)) ∧ w'.cell? ⟨w3.heap.size, 4, none⟩ = some (.slice Ex 0 kx) ∧ w'.cell? ⟨w3.heap.size, 5, none⟩ = some (.int .i64 (yd))) ∧ (w'.cell? ⟨w1.heap.size, 0, none⟩ = some (.slice Ad nd cd) ∧ w'.cell? ⟨w1.heap.size, 1, none⟩ = some (.int .i64 (pd)) ∧ w'.cell? ⟨w1.heap.size, 2, none⟩ = some (.slice Ad' nd' cd') ∧ w'.cell? ⟨w1.heap.size, 3, none⟩ = some (.int .i64 (qd)) ∧ w'.cell? ⟨w1.heap.size, 4, none⟩ = some (.slice Ed md kd) ∧ w'.cell? ⟨w1.heap.size, 5, none⟩ = some (.int .i64 (yd))))) (by kernel_rfl) (by (try dsimp only); go_keep) (fun hHeld => ?_)
        refine wpAnyH_take (i := 0) (oi := ?oi207) (v := ?v207) ?hi207 (by kernel_rfl) (by kernel_rfl) (by kernel_rfl) ?hq207 (Or.inl ⟨?hw207, ?hy207⟩) (by assumption) ?_
        case hi207 => simp only [List.getElem?_toArray, List.getElem?_cons_succ, List.getElem?_cons_zero]; rfl
        case hw207 => rfl
        case hq207 => exact fun _ _ _ h => h
        case hy207 => intro w hSw; (try dsimp only at hSw); go_simp; (try with_reducible rfl)
        (try simp only [Act.put, List.setIfInBounds_toArray, List.set_cons_zero, List.set_cons_succ])
        refine wpAnyH_take (i := 1) (oi := ?oi208) (v := ?v208) ?hi208 (by kernel_rfl) (by kernel_rfl) (by kernel_rfl) ?hq208 (Or.inl ⟨?hw208, ?hy208⟩) (by assumption) ?_
        case hi208 => simp only [List.getElem?_toArray, List.getElem?_cons_succ, List.getElem?_cons_zero]; rfl
        case hw208 => rfl
        case hq208 => exact fun _ _ _ h => h
        case hy208 => intro w hSw; (try dsimp only at hSw); go_simp; (try with_reducible rfl)
        (try simp only [Act.put, List.setIfInBounds_toArray, List.set_cons_zero, List.set_cons_succ])
        refine wpAnyH_take (i := 2) (oi := ?oi209) (v := ?v209) ?hi209 (by kernel_rfl) (by kernel_rfl) (by kernel_rfl) ?hq209 (Or.inl ⟨?hw209, ?hy209⟩) (by assumption) ?_
        case hi209 => simp only [List.getElem?_toArray, List.getElem?_cons_succ, List.getElem?_cons_zero]; rfl
        case hw209 => rfl
        case hq209 => exact fun _ _ _ h => h
        case hy209 => intro w hSw; (try dsimp only at hSw); go_simp; (try with_reducible rfl)
        (try simp only [Act.put, List.setIfInBounds_toArray, List.set_cons_zero, List.set_cons_succ])
        refine wpAnyH_take (i := 3) (oi := ?oi210) (v := ?v210) ?hi210 (by kernel_rfl) (by kernel_rfl) (by kernel_rfl) ?hq210 (Or.inl ⟨?hw210, ?hy210⟩) (by assumption) ?_
        case hi210 => simp only [List.getElem?_toArray, List.getElem?_cons_succ, List.getElem?_cons_zero]; rfl
        case hw210 => rfl
        case hq210 => exact fun _ _ _ h => h
        case hy210 => intro w hSw; (try dsimp only at hSw); go_simp; (try with_reducible rfl)
        (try simp only [Act.put, List.setIfInBounds_toArray, List.set_cons_zero, List.set_cons_succ])
        refine wpAnyH_take (i := 4) (oi := ?oi211) (v := ?v211) ?hi211 (by kernel_rfl) (by kernel_rfl) (by kernel_rfl) ?hq211 (Or.inl ⟨?hw211, ?hy211⟩) (by assumption) ?_
        case hi211 => simp only [List.getElem?_toArray, List.getElem?_cons_succ, List.getElem?_cons_zero]; rfl
        case hw211 => rfl
        case hq211 => exact fun _ _ _ h => h
        case hy211 => intro w hSw; (try dsimp only at hSw); go_simp; (try with_reducible rfl)
        (try simp only [Act.put, List.setIfInBounds_toArray, List.set_cons_zero, List.set_cons_succ])
        refine wpAnyH_take (i := 5) (oi := ?oi212) (v := ?v212) ?hi212 (by kernel_rfl) (by kernel_rfl) (by kernel_rfl) ?hq212 (Or.inl ⟨?hw212, ?hy212⟩) (by assumption) ?_
        case hi212 => simp only [List.getElem?_toArray, List.getElem?_cons_succ, List.getElem?_cons_zero]; rfl
        case hw212 => rfl
        case hq212 => exact fun _ _ _ h => h
        case hy212 => intro w hSw; (try dsimp only at hSw); go_simp; (try with_reducible rfl)
        (try simp only [Act.put, List.setIfInBounds_toArray, List.set_cons_zero, List.set_cons_succ])
        refine wpAnyH_take (i := 6) (oi := ?oi213) (v := ?v213) ?hi213 (by kernel_rfl) (by kernel_rfl) (by kernel_rfl) ?hq213 (Or.inl ⟨?hw213, ?hy213⟩) (by assumption) ?_
        case hi213 => simp only [List.getElem?_toArray, List.getElem?_cons_succ, List.getElem?_cons_zero]; rfl
        case hw213 => rfl
        case hq213 => exact fun _ _ _ h => h
        case hy213 => intro w hSw; (try dsimp only at hSw); go_simp; (try with_reducible rfl)
        (try simp only [Act.put, List.setIfInBounds_toArray, List.set_cons_zero, List.set_cons_succ])
        refine wpAnyH_take (i := 7) (oi := ?oi214) (v := ?v214) ?hi214 (by kernel_rfl) (by kernel_rfl) (by kernel_rfl) ?hq214 (Or.inl ⟨?hw214, ?hy214⟩) (by assumption) ?_
        case hi214 => simp only [List.getElem?_toArray, List.getElem?_cons_succ, List.getElem?_cons_zero]; rfl
        case hw214 => rfl
        case hq214 => exact fun _ _ _ h => h
        case hy214 => intro w hSw; (try dsimp only at hSw); go_simp; (try with_reducible rfl)
        (try simp only [Act.put, List.setIfInBounds_toArray, List.set_cons_zero, List.set_cons_succ])
        refine wpAnyH_take (i := 8) (oi := ?oi215) (v := ?v215) ?hi215 (by kernel_rfl) (by kernel_rfl) (by kernel_rfl) ?hq215 (Or.inl ⟨?hw215, ?hy215⟩) (by assumption) ?_
        case hi215 => simp only [List.getElem?_toArray, List.getElem?_cons_succ, List.getElem?_cons_zero]; rfl
        case hw215 => rfl
        case hq215 => exact fun _ _ _ h => h
        case hy215 => intro w hSw; (try dsimp only at hSw); go_simp; (try with_reducible rfl)
        (try simp only [Act.put, List.setIfInBounds_toArray, List.set_cons_zero, List.set_cons_succ])
        refine wpAnyH_take (i := 9) (oi := ?oi216) (v := ?v216) ?hi216 (by kernel_rfl) (by kernel_rfl) (by kernel_rfl) ?hq216 (Or.inl ⟨?hw216, ?hy216⟩) (by assumption) ?_
        case hi216 => simp only [List.getElem?_toArray, List.getElem?_cons_succ, List.getElem?_cons_zero]; rfl
        case hw216 => rfl
        case hq216 => exact fun _ _ _ h => h
        case hy216 => intro w hSw; (try dsimp only at hSw); go_simp; (try with_reducible rfl)
        (try simp only [Act.put, List.setIfInBounds_toArray, List.set_cons_zero, List.set_cons_succ])
        refine wpAnyH_take (i := 10) (oi := ?oi217) (v := ?v217) ?hi217 (by kernel_rfl) (by kernel_rfl) (by kernel_rfl) ?hq217 (Or.inl ⟨?hw217, ?hy217⟩) (by assumption) ?_
        case hi217 => simp only [List.getElem?_toArray, List.getElem?_cons_succ, List.getElem?_cons_zero]; rfl
        case hw217 => rfl
        case hq217 => exact fun _ _ _ h => h
        case hy217 => intro w hSw; (try dsimp only at hSw); go_simp; (try with_reducible rfl)
        (try simp only [Act.put, List.setIfInBounds_toArray, List.set_cons_zero, List.set_cons_succ])
        refine wpAnyH_take (i := 11) (oi := ?oi218) (v := ?v218) ?hi218 (by kernel_rfl) (by kernel_rfl) (by kernel_rfl) ?hq218 (Or.inl ⟨?hw218, ?hy218⟩) (by assumption) ?_
        case hi218 => simp only [List.getElem?_toArray, List.getElem?_cons_succ, List.getElem?_cons_zero]; rfl
        case hw218 => rfl
        case hq218 => exact fun _ _ _ h => h
        case hy218 => intro w hSw; (try dsimp only at hSw); go_simp; (try with_reducible rfl)
        (try simp only [Act.put, List.setIfInBounds_toArray, List.set_cons_zero, List.set_cons_succ])
        refine wpAnyH_take (i := 12) (oi := ?oi219) (v := ?v219) ?hi219 (by kernel_rfl) (by kernel_rfl) (by kernel_rfl) ?hq219 (Or.inl ⟨?hw219, ?hy219⟩) (by assumption) ?_
        case hi219 => simp only [List.getElem?_toArray, List.getElem?_cons_succ, List.getElem?_cons_zero]; rfl
        case hw219 => rfl
        case hq219 => exact fun _ _ _ h => h
        case hy219 => intro w hSw; (try dsimp only at hSw); go_simp; (try with_reducible rfl)
        (try simp only [Act.put, List.setIfInBounds_toArray, List.set_cons_zero, List.set_cons_succ])
        refine wpAnyH_take (i := 13) (oi := ?oi220) (v := ?v220) ?hi220 (by kernel_rfl) (by kernel_rfl) (by kernel_rfl) ?hq220 (Or.inl ⟨?hw220, ?hy220⟩) (by assumption) ?_
        case hi220 => simp only [List.getElem?_toArray, List.getElem?_cons_succ, List.getElem?_cons_zero]; rfl
        case hw220 => rfl
        case hq220 => exact fun _ _ _ h => h
        case hy220 => intro w hSw; (try dsimp only at hSw); go_simp; (try with_reducible rfl)
        (try simp only [Act.put, List.setIfInBounds_toArray, List.set_cons_zero, List.set_cons_succ])
        refine wpAnyH_take (i := 14) (oi := ?oi221) (v := ?v221) ?hi221 (by kernel_rfl) (by kernel_rfl) (by kernel_rfl) ?hq221 (Or.inl ⟨?hw221, ?hy221⟩) (by assumption) ?_
        case hi221 => simp only [List.getElem?_toArray, List.getElem?_cons_succ, List.getElem?_cons_zero]; rfl
        case hw221 => rfl
        case hq221 => exact fun _ _ _ h => h
        case hy221 => intro w hSw; (try dsimp only at hSw); go_simp; (try with_reducible rfl)
        (try simp only [Act.put, List.setIfInBounds_toArray, List.set_cons_zero, List.set_cons_succ])
        refine wpAnyH_take (i := 15) (oi := ?oi222) (v := ?v222) ?hi222 (by kernel_rfl) (by kernel_rfl) (by kernel_rfl) ?hq222 (Or.inl ⟨?hw222, ?hy222⟩) (by assumption) ?_
        case hi222 => simp only [List.getElem?_toArray, List.getElem?_cons_succ, List.getElem?_cons_zero]; rfl
        case hw222 => rfl
        case hq222 => exact fun _ _ _ h => h
        case hy222 => intro w hSw; (try dsimp only at hSw); go_simp; (try with_reducible rfl)
        (try simp only [Act.put, List.setIfInBounds_toArray, List.set_cons_zero, List.set_cons_succ])
        refine wpAnyH_take (i := 16) (oi := ?oi223) (v := ?v223) ?hi223 (by kernel_rfl) (by kernel_rfl) (by kernel_rfl) ?hq223 (Or.inl ⟨?hw223, ?hy223⟩) (by assumption) ?_
        case hi223 => simp only [List.getElem?_toArray, List.getElem?_cons_succ, List.getElem?_cons_zero]; rfl
        case hw223 => rfl
        case hq223 => exact fun _ _ _ h => h
        case hy223 => intro w hSw; (try dsimp only at hSw); go_simp; (try with_reducible rfl)
        (try simp only [Act.put, List.setIfInBounds_toArray, List.set_cons_zero, List.set_cons_succ])
        refine wpAnyH_take (i := 17) (oi := ?oi224) (v := ?v224) ?hi224 (by kernel_rfl) (by kernel_rfl) (by kernel_rfl) ?hq224 (Or.inl ⟨?hw224, ?hy224⟩) (by assumption) ?_
        case hi224 => simp only [List.getElem?_toArray, List.getElem?_cons_succ, List.getElem?_cons_zero]; rfl
        case hw224 => rfl
        case hq224 => exact fun _ _ _ h => h
        case hy224 => intro w hSw; (try dsimp only at hSw); go_simp; (try with_reducible rfl)
        (try simp only [Act.put, List.setIfInBounds_toArray, List.set_cons_zero, List.set_cons_succ])
        refine wpAnyH_take (i := 18) (oi := ?oi225) (v := ?v225) ?hi225 (by kernel_rfl) (by kernel_rfl) (by kernel_rfl) ?hq225 (Or.inl ⟨?hw225, ?hy225⟩) (by assumption) ?_
        case hi225 => simp only [List.getElem?_toArray, List.getElem?_cons_succ, List.getElem?_cons_zero]; rfl
        case hw225 => rfl
        case hq225 => exact fun _ _ _ h => h
        case hy225 => intro w hSw; (try dsimp only at hSw); go_simp; (try with_reducible rfl)
        (try simp only [Act.put, List.setIfInBounds_toArray, List.set_cons_zero, List.set_cons_succ])
        refine wpAnyH_ready (rs := [19]) (by kernel_rfl) (by simp) ?_
        refine AllReadyH.cons (o := ?o226) ?ho226 (fun K hK => ?_) AllReadyH.nil
        case ho226 => simp only [List.getElem?_toArray, List.getElem?_cons_succ, List.getElem?_cons_zero]; rfl
        go_simp
        (go_at_call 29; (with_reducible refine (begins_same x1.out.drew (s1.out.drew.take (m := nx) hkn) hcx PR4.out).mono ?_); rintro e wg10 ⟨rfl, hb⟩; (try simp only [World.size_alloc, World.size_setCell, World.size_drew] at hb); have HRg10 := Lib.hid hb; have srg10 := hb.size; (try simp only [World.size_alloc, World.size_setCell, World.size_drew] at srg10); have Yxg10 := Lib.hid (Bx.out.drew.below hb (by omega)); have Ydg10 := Lib.hid (Bd.out.drew.below hb (by omega)); clear hb; have vx0 := (Yxg10.out.2 0 _ rfl).1; have vx1 := (Yxg10.out.2 1 _ rfl).1; have vx2 := (Yxg10.out.2 2 _ rfl).1; have vx3 := (Yxg10.out.2 3 _ rfl).1; have vx4 := (Yxg10.out.2 4 _ rfl).1; have vx5 := (Yxg10.out.2 5 _ rfl).1; have vd0 := (Ydg10.out.2 0 _ rfl).1; have vd1 := (Ydg10.out.2 1 _ rfl).1; have vd2 := (Ydg10.out.2 2 _ rfl).1; have vd3 := (Ydg10.out.2 3 _ rfl).1; have vd4 := (Ydg10.out.2 4 _ rfl).1; have vd5 := (Ydg10.out.2 5 _ rfl).1)
        clear hHeld
        refine hK.out _ _ (by (try dsimp only); go_keep) (fun hHeld => ?_)
        clear hK K
        (try simp only [Act.put, List.setIfInBounds_toArray, List.set_cons_zero, List.set_cons_succ])
        refine wpAnyH_take (i := 20) (oi := ?oi227) (v := ?v227) ?hi227 (by kernel_rfl) (by kernel_rfl) (by kernel_rfl) ?hq227 (Or.inl ⟨?hw227, ?hy227⟩) (by assumption) ?_
        case hi227 => simp only [List.getElem?_toArray, List.getElem?_cons_succ, List.getElem?_cons_zero]; rfl
        case hw227 => rfl
        case hq227 => exact fun _ _ _ h => h
        case hy227 => intro w hSw; (try dsimp only at hSw); go_simp; (try with_reducible rfl)
        (try simp only [Act.put, List.setIfInBounds_toArray, List.set_cons_zero, List.set_cons_succ])
        refine wpAnyH_take (i := 21) (oi := ?oi228) (v := ?v228) ?hi228 (by kernel_rfl) (by kernel_rfl) (by kernel_rfl) ?hq228 (Or.inl ⟨?hw228, ?hy228⟩) (by assumption) ?_
        case hi228 => simp only [List.getElem?_toArray, List.getElem?_cons_succ, List.getElem?_cons_zero]; rfl
        case hw228 => rfl
        case hq228 => exact fun _ _ _ h => h
        case hy228 => intro w hSw; (try dsimp only at hSw); go_simp; (try with_reducible rfl)
        (try simp only [Act.put, List.setIfInBounds_toArray, List.set_cons_zero, List.set_cons_succ])
        refine wpAnyH_take (i := 22) (oi := ?oi229) (v := ?v229) ?hi229 (by kernel_rfl) (by kernel_rfl) (by kernel_rfl) ?hq229 (Or.inl ⟨?hw229, ?hy229⟩) (by assumption) ?_
        case hi229 => simp only [List.getElem?_toArray, List.getElem?_cons_succ, List.getElem?_cons_zero]; rfl
        case hw229 => rfl
        case hq229 => exact fun _ _ _ h => h
        case hy229 => intro w hSw; (try dsimp only at hSw); go_simp; (try with_reducible rfl)
        (try simp only [Act.put, List.setIfInBounds_toArray, List.set_cons_zero, List.set_cons_succ])
        refine wpAnyH_take (i := 23) (oi := ?oi230) (v := ?v230) ?hi230 (by kernel_rfl) (by kernel_rfl) (by kernel_rfl) ?hq230 (Or.inl ⟨?hw230, ?hy230⟩) (by assumption) ?_
        case hi230 => simp only [List.getElem?_toArray, List.getElem?_cons_succ, List.getElem?_cons_zero]; rfl
        case hw230 => rfl
        case hq230 => exact fun _ _ _ h => h
        case hy230 => intro w hSw; (try dsimp only at hSw); go_simp; (try with_reducible rfl)
        (try simp only [Act.put, List.setIfInBounds_toArray, List.set_cons_zero, List.set_cons_succ])
        refine wpAnyH_take (i := 24) (oi := ?oi231) (v := ?v231) ?hi231 (by kernel_rfl) (by kernel_rfl) (by kernel_rfl) ?hq231 (Or.inl ⟨?hw231, ?hy231⟩) (by assumption) ?_
        case hi231 => simp only [List.getElem?_toArray, List.getElem?_cons_succ, List.getElem?_cons_zero]; rfl
        case hw231 => rfl
        case hq231 => exact fun _ _ _ h => h
        case hy231 => intro w hSw; (try dsimp only at hSw); go_simp; (try with_reducible rfl)
        (try simp only [Act.put, List.setIfInBounds_toArray, List.set_cons_zero, List.set_cons_succ])
        refine wpAnyH_take (i := 25) (oi := ?oi232) (v := ?v232) ?hi232 (by kernel_rfl) (by kernel_rfl) (by kernel_rfl) ?hq232 (Or.inl ⟨?hw232, ?hy232⟩) (by assumption) ?_
        case hi232 => simp only [List.getElem?_toArray, List.getElem?_cons_succ, List.getElem?_cons_zero]; rfl
        case hw232 => rfl
        case hq232 => exact fun _ _ _ h => h
        case hy232 => intro w hSw; (try dsimp only at hSw); go_simp; (try with_reducible rfl)
        (try simp only [Act.put, List.setIfInBounds_toArray, List.set_cons_zero, List.set_cons_succ])
        refine wpAnyH_take (i := 26) (oi := ?oi233) (v := ?v233) ?hi233 (by kernel_rfl) (by kernel_rfl) (by kernel_rfl) ?hq233 (Or.inl ⟨?hw233, ?hy233⟩) (by assumption) ?_
        case hi233 => simp only [List.getElem?_toArray, List.getElem?_cons_succ, List.getElem?_cons_zero]; rfl
        case hw233 => rfl
        case hq233 => exact fun _ _ _ h => h
        case hy233 => intro w hSw; (try dsimp only at hSw); go_simp; (try with_reducible rfl)
        (try simp only [Act.put, List.setIfInBounds_toArray, List.set_cons_zero, List.set_cons_succ])
        refine wpAnyH_take (i := 27) (oi := ?oi234) (v := ?v234) ?hi234 (by kernel_rfl) (by kernel_rfl) (by kernel_rfl) ?hq234 (Or.inl ⟨?hw234, ?hy234⟩) (by assumption) ?_
        case hi234 => simp only [List.getElem?_toArray, List.getElem?_cons_succ, List.getElem?_cons_zero]; rfl
        case hw234 => rfl
        case hq234 => exact fun _ _ _ h => h
        case hy234 => intro w hSw; (try dsimp only at hSw); go_simp; (try with_reducible rfl)
        (try simp only [Act.put, List.setIfInBounds_toArray, List.set_cons_zero, List.set_cons_succ])
        refine wpAnyH_take (i := 28) (oi := ?oi235) (v := ?v235) ?hi235 (by kernel_rfl) (by kernel_rfl) (by kernel_rfl) ?hq235 (Or.inl ⟨?hw235, ?hy235⟩) (by assumption) ?_
        case hi235 => simp only [List.getElem?_toArray, List.getElem?_cons_succ, List.getElem?_cons_zero]; rfl
        case hw235 => rfl
        case hq235 => exact fun _ _ _ h => h
        case hy235 => intro w hSw; (try dsimp only at hSw); go_simp; (try with_reducible rfl)
        (try simp only [Act.put, List.setIfInBounds_toArray, List.set_cons_zero, List.set_cons_succ])
        refine wpAnyH_take (i := 30) (oi := ?oi236) (v := ?v236) ?hi236 (by kernel_rfl) (by kernel_rfl) (by kernel_rfl) ?hq236 (Or.inl ⟨?hw236, ?hy236⟩) (by assumption) ?_
        case hi236 => simp only [List.getElem?_toArray, List.getElem?_cons_succ, List.getElem?_cons_zero]; rfl
        case hw236 => rfl
        case hq236 => exact fun _ _ _ h => h
        case hy236 => intro w hSw; (try dsimp only at hSw); go_simp; (try with_reducible rfl)
        (try simp only [Act.put, List.setIfInBounds_toArray, List.set_cons_zero, List.set_cons_succ])
        refine wpAnyH_ready (rs := [29]) (by kernel_rfl) (by simp) ?_
        refine AllReadyH.cons (o := ?o237) ?ho237 (fun K hK => ?_) AllReadyH.nil
        case ho237 => simp only [List.getElem?_toArray, List.getElem?_cons_succ, List.getElem?_cons_zero]; rfl
        go_simp
        (go_at_call 22; (with_reducible refine (to_intN (TellWriter_x (x1.out.drew.below HRg10.out (by first | omega | (simp; omega) | (simp; done))) (x2.out.drew.below HRg10.out (by first | omega | (simp; omega) | (simp; done))) (x3.out.drew.below HRg10.out (by first | omega | (simp; omega) | (simp; done))) (by first | omega | (simp; omega) | (simp; done)) (by first | omega | (simp; omega) | (simp; done)) (by first | omega | (simp; omega) | (simp; done)) hcx) TX.out).mono ?_); rintro e wg11 ⟨rfl, hb⟩; (try simp only [World.size_alloc, World.size_setCell, World.size_drew] at hb); have HRg11 := Lib.hid hb; have srg11 := hb.size; (try simp only [World.size_alloc, World.size_setCell, World.size_drew] at srg11); have Yxg11 := Lib.hid (Yxg10.out.below hb (by omega)); have Ydg11 := Lib.hid (Ydg10.out.below hb (by omega)); clear hb; have vx0 := (Yxg11.out.2 0 _ rfl).1; have vx1 := (Yxg11.out.2 1 _ rfl).1; have vx2 := (Yxg11.out.2 2 _ rfl).1; have vx3 := (Yxg11.out.2 3 _ rfl).1; have vx4 := (Yxg11.out.2 4 _ rfl).1; have vx5 := (Yxg11.out.2 5 _ rfl).1; have vd0 := (Ydg11.out.2 0 _ rfl).1; have vd1 := (Ydg11.out.2 1 _ rfl).1; have vd2 := (Ydg11.out.2 2 _ rfl).1; have vd3 := (Ydg11.out.2 3 _ rfl).1; have vd4 := (Ydg11.out.2 4 _ rfl).1; have vd5 := (Ydg11.out.2 5 _ rfl).1)
        clear hHeld
        refine hK.out _ _ (by (try dsimp only); go_keep) (fun hHeld => ?_)
        clear hK K
        (try simp only [Act.put, List.setIfInBounds_toArray, List.set_cons_zero, List.set_cons_succ])
        refine wpAnyH_ready (rs := [31]) (by kernel_rfl) (by simp) ?_
        refine AllReadyH.cons (o := ?o238) ?ho238 (fun K hK => ?_) AllReadyH.nil
        case ho238 => simp only [List.getElem?_toArray, List.getElem?_cons_succ, List.getElem?_cons_zero]; rfl
        go_simp
        (go_at_call 22; (with_reducible refine (to_intN (TellWriter_x ((d1.out.drew.below HRg10.out (by first | omega | (simp; omega) | (simp; done))).below HRg11.out (by first | omega | (simp; omega) | (simp; done))) ((d2.out.drew.below HRg10.out (by first | omega | (simp; omega) | (simp; done))).below HRg11.out (by first | omega | (simp; omega) | (simp; done))) ((d3.out.drew.below HRg10.out (by first | omega | (simp; omega) | (simp; done))).below HRg11.out (by first | omega | (simp; omega) | (simp; done))) (by first | omega | (simp; omega) | (simp; done)) (by first | omega | (simp; omega) | (simp; done)) (by first | omega | (simp; omega) | (simp; done)) hcd) TV.out).mono ?_); rintro e wg12 ⟨rfl, hb⟩; (try simp only [World.size_alloc, World.size_setCell, World.size_drew] at hb); have HRg12 := Lib.hid hb; have srg12 := hb.size; (try simp only [World.size_alloc, World.size_setCell, World.size_drew] at srg12); have Yxg12 := Lib.hid (Yxg11.out.below hb (by omega)); have Ydg12 := Lib.hid (Ydg11.out.below hb (by omega)); clear hb; have vx0 := (Yxg12.out.2 0 _ rfl).1; have vx1 := (Yxg12.out.2 1 _ rfl).1; have vx2 := (Yxg12.out.2 2 _ rfl).1; have vx3 := (Yxg12.out.2 3 _ rfl).1; have vx4 := (Yxg12.out.2 4 _ rfl).1; have vx5 := (Yxg12.out.2 5 _ rfl).1; have vd0 := (Ydg12.out.2 0 _ rfl).1; have vd1 := (Ydg12.out.2 1 _ rfl).1; have vd2 := (Ydg12.out.2 2 _ rfl).1; have vd3 := (Ydg12.out.2 3 _ rfl).1; have vd4 := (Ydg12.out.2 4 _ rfl).1; have vd5 := (Ydg12.out.2 5 _ rfl).1)
        clear hHeld
        refine hK.out _ _ (by (try dsimp only); go_keep) (fun hHeld => ?_)
        clear hK K
        (try simp only [Act.put, List.setIfInBounds_toArray, List.set_cons_zero, List.set_cons_succ])
        refine wpAnyH_take (i := 32) (oi := ?oi239) (v := ?v239) ?hi239 (by kernel_rfl) (by kernel_rfl) (by kernel_rfl) ?hq239 (Or.inl ⟨?hw239, ?hy239⟩) (by assumption) ?_
        case hi239 => simp only [List.getElem?_toArray, List.getElem?_cons_succ, List.getElem?_cons_zero]; rfl
        case hw239 => rfl
        case hq239 => exact fun _ _ _ h => h
        case hy239 => intro w hSw; (try dsimp only at hSw); go_simp; (try with_reducible rfl)
        (try simp only [Act.put, List.setIfInBounds_toArray, List.set_cons_zero, List.set_cons_succ])
        refine wpAnyH_take (i := 33) (oi := ?oi240) (v := ?v240) ?hi240 (by kernel_rfl) (by kernel_rfl) (by kernel_rfl) ?hq240 (Or.inl ⟨?hw240, ?hy240⟩) (by assumption) ?_
        case hi240 => simp only [List.getElem?_toArray, List.getElem?_cons_succ, List.getElem?_cons_zero]; rfl
        case hw240 => rfl
        case hq240 => exact fun _ _ _ h => h
        case hy240 => intro w hSw; (try dsimp only at hSw); go_simp; (try with_reducible rfl)
        (try simp only [Act.put, List.setIfInBounds_toArray, List.set_cons_zero, List.set_cons_succ])
        refine wpAnyH_take (i := 34) (oi := ?oi241) (v := ?v241) ?hi241 (by kernel_rfl) (by kernel_rfl) (by kernel_rfl) ?hq241 (Or.inl ⟨?hw241, ?hy241⟩) (by assumption) ?_
        case hi241 => simp only [List.getElem?_toArray, List.getElem?_cons_succ, List.getElem?_cons_zero]; rfl
        case hw241 => rfl
        case hq241 => exact fun _ _ _ h => h
        case hy241 => intro w hSw; (try dsimp only at hSw); go_simp; (try with_reducible rfl)
        (try simp only [Act.put, List.setIfInBounds_toArray, List.set_cons_zero, List.set_cons_succ])
        refine wpAnyH_take (i := 35) (oi := ?oi242) (v := ?v242) ?hi242 (by kernel_rfl) (by kernel_rfl) (by kernel_rfl) ?hq242 (Or.inl ⟨?hw242, ?hy242⟩) (by assumption) ?_
        case hi242 => simp only [List.getElem?_toArray, List.getElem?_cons_succ, List.getElem?_cons_zero]; rfl
        case hw242 => rfl
        case hq242 => exact fun _ _ _ h => h
        case hy242 => intro w hSw; (try dsimp only at hSw); go_simp; (try with_reducible rfl)
        (try simp only [Act.put, List.setIfInBounds_toArray, List.set_cons_zero, List.set_cons_succ])
        refine wpAnyH_done (by kernel_rfl) ?_ _
        go_wp2
        go_ret
        exact ⟨rfl, (below_step HRg12.out (below_step HRg11.out (below_step HRg10.out EB.out.drew (by first | omega | (simp; omega) | (simp; done))) (by first | omega | (simp; omega) | (simp; done))) (by first | omega | (simp; omega) | (simp; done)))⟩
    · have h00 : (st == 0) = false := by simpa using h0
      have h01 : (st != 0) = true := by simpa using h0
      clear WHAT
      have vdl := Bd.out.lt
      have vd0 := (Bd.out.2 0 _ rfl).1
      have vd1 := (Bd.out.2 1 _ rfl).1
      have vd2 := (Bd.out.2 2 _ rfl).1
      have vd3 := (Bd.out.2 3 _ rfl).1
      have vd4 := (Bd.out.2 4 _ rfl).1
      have vd5 := (Bd.out.2 5 _ rfl).1
      go_wp2_with fail
      refine (to_ri (CutWriter_x (HE.below EB.out (Nat.le_refl _)) EB.out.size d1.out d2.out d3.out (by omega) (by omega) (by omega) hcd hcd' hkd (by omega) (by omega) (by omega) (by unfold okInt; omega)) HO.out).mono ?_
      clear vdl vd0 vd1 vd2 vd3 vd4 vd5
      rintro e w3 ⟨Ax, nx, cx, Ax', nx', cx', Ex, mx, kx, rfl, ⟨hcx, hcx', hkx⟩, hb, hd, hd', hr⟩
      (try simp only [World.size_alloc, World.size_setCell, World.size_drew] at hb)
      have HB := Lib.hid hb
      clear hb
      have s3 := HB.out.size
      (try simp only [World.size_alloc, World.size_setCell, World.size_drew] at s3)
      replace d1 := Lib.hid (d1.out.below HB.out (by omega))
      replace d2 := Lib.hid (d2.out.below HB.out (by omega))
      replace d3 := Lib.hid (d3.out.below HB.out (by omega))
      replace Bd := Lib.hid (Bd.out.below HB.out (by omega))
      replace EB := Lib.hid (below_step HB.out EB.out (by omega))
      clear HB
      have x1 := Lib.hid hd
      have x2 := Lib.hid hd'
      have x3 := Lib.hid hr
      clear hd hd' hr
      have vdl := Bd.out.lt
      have vd0 := (Bd.out.2 0 _ rfl).1
      have vd1 := (Bd.out.2 1 _ rfl).1
      have vd2 := (Bd.out.2 2 _ rfl).1
      have vd3 := (Bd.out.2 3 _ rfl).1
      have vd4 := (Bd.out.2 4 _ rfl).1
      have vd5 := (Bd.out.2 5 _ rfl).1
      go_wp2_with fail
      clear vdl vd0 vd1 vd2 vd3 vd4 vd5
      replace d1 := Lib.hid (d1.out.alloc (by omega) (.cells #[.slice Ax nx cx, .int .i64 (P), .slice Ax' nx' cx', .int .i64 (Q), .slice Ex mx kx, .int .i64 (yd)] 27))
      replace d2 := Lib.hid (d2.out.alloc (by omega) (.cells #[.slice Ax nx cx, .int .i64 (P), .slice Ax' nx' cx', .int .i64 (Q), .slice Ex mx kx, .int .i64 (yd)] 27))
      replace d3 := Lib.hid (d3.out.alloc (by omega) (.cells #[.slice Ax nx cx, .int .i64 (P), .slice Ax' nx' cx', .int .i64 (Q), .slice Ex mx kx, .int .i64 (yd)] 27))
      replace Bd := Lib.hid (Bd.out.alloc (.cells #[.slice Ax nx cx, .int .i64 (P), .slice Ax' nx' cx', .int .i64 (Q), .slice Ex mx kx, .int .i64 (yd)] 27))
      replace x1 := Lib.hid (x1.out.alloc (by omega) (.cells #[.slice Ax nx cx, .int .i64 (P), .slice Ax' nx' cx', .int .i64 (Q), .slice Ex mx kx, .int .i64 (yd)] 27))
      replace x2 := Lib.hid (x2.out.alloc (by omega) (.cells #[.slice Ax nx cx, .int .i64 (P), .slice Ax' nx' cx', .int .i64 (Q), .slice Ex mx kx, .int .i64 (yd)] 27))
      replace x3 := Lib.hid (x3.out.alloc (by omega) (.cells #[.slice Ax nx cx, .int .i64 (P), .slice Ax' nx' cx', .int .i64 (Q), .slice Ex mx kx, .int .i64 (yd)] 27))
      replace EB := Lib.hid (EB.out.alloc (by omega) (.cells #[.slice Ax nx cx, .int .i64 (P), .slice Ax' nx' cx', .int .i64 (Q), .slice Ex mx kx, .int .i64 (yd)] 27))
      have Bx := Lib.hid (Box.new w3 27 [.slice Ax nx cx, .int .i64 (P), .slice Ax' nx' cx', .int .i64 (Q), .slice Ex mx kx, .int .i64 (yd)])
      have s4 : w3.heap.size + 1 ≤ (w3.alloc (.cells #[.slice Ax nx cx, .int .i64 (P), .slice Ax' nx' cx', .int .i64 (Q), .slice Ex mx kx, .int .i64 (yd)] 27)).heap.size := by simp
      generalize w3.alloc (.cells #[.slice Ax nx cx, .int .i64 (P), .slice Ax' nx' cx', .int .i64 (Q), .slice Ex mx kx, .int .i64 (yd)] 27) = w4 at *
      refine (to_ri (SCutWriter_x d1.out d2.out d3.out (by omega) (by omega) (by omega) hcd hcd' hkd (by omega) (by omega) (by omega) (by unfold okInt; omega)) HO.out).mono ?_
      rintro e w5 ⟨Ay, ny, cy, Ay', ny', cy', Ey, my, ky, rfl, ⟨hcy, hcy', hky⟩, hb, hd, hd', hr⟩
      (try simp only [World.size_alloc, World.size_setCell, World.size_drew] at hb)
      have HB := Lib.hid hb
      clear hb
      have s5 := HB.out.size
      (try simp only [World.size_alloc, World.size_setCell, World.size_drew] at s5)
      replace d1 := Lib.hid (d1.out.below HB.out (by omega))
      replace d2 := Lib.hid (d2.out.below HB.out (by omega))
      replace d3 := Lib.hid (d3.out.below HB.out (by omega))
      replace Bd := Lib.hid (Bd.out.below HB.out (by omega))
      replace x1 := Lib.hid (x1.out.below HB.out (by omega))
      replace x2 := Lib.hid (x2.out.below HB.out (by omega))
      replace x3 := Lib.hid (x3.out.below HB.out (by omega))
      replace Bx := Lib.hid (Bx.out.below HB.out (by omega))
      replace EB := Lib.hid (below_step HB.out EB.out (by omega))
      clear HB
      have y1 := Lib.hid hd
      have y2 := Lib.hid hd'
      have y3 := Lib.hid hr
      clear hd hd' hr
      have vxl := Bx.out.lt
      have vx0 := (Bx.out.2 0 _ rfl).1
      have vx1 := (Bx.out.2 1 _ rfl).1
      have vx2 := (Bx.out.2 2 _ rfl).1
      have vx3 := (Bx.out.2 3 _ rfl).1
      have vx4 := (Bx.out.2 4 _ rfl).1
      have vx5 := (Bx.out.2 5 _ rfl).1
      go_wp2_with fail
      clear vxl vx0 vx1 vx2 vx3 vx4 vx5
      replace d1 := Lib.hid (d1.out.alloc (by omega) (.cells #[.slice Ay ny cy, .int .i64 (P), .slice Ay' ny' cy', .int .i64 (Q), .slice Ey my ky, .int .i64 (yd)] 27))
      replace d2 := Lib.hid (d2.out.alloc (by omega) (.cells #[.slice Ay ny cy, .int .i64 (P), .slice Ay' ny' cy', .int .i64 (Q), .slice Ey my ky, .int .i64 (yd)] 27))
      replace d3 := Lib.hid (d3.out.alloc (by omega) (.cells #[.slice Ay ny cy, .int .i64 (P), .slice Ay' ny' cy', .int .i64 (Q), .slice Ey my ky, .int .i64 (yd)] 27))
      replace Bd := Lib.hid (Bd.out.alloc (.cells #[.slice Ay ny cy, .int .i64 (P), .slice Ay' ny' cy', .int .i64 (Q), .slice Ey my ky, .int .i64 (yd)] 27))
      replace x1 := Lib.hid (x1.out.alloc (by omega) (.cells #[.slice Ay ny cy, .int .i64 (P), .slice Ay' ny' cy', .int .i64 (Q), .slice Ey my ky, .int .i64 (yd)] 27))
      replace x2 := Lib.hid (x2.out.alloc (by omega) (.cells #[.slice Ay ny cy, .int .i64 (P), .slice Ay' ny' cy', .int .i64 (Q), .slice Ey my ky, .int .i64 (yd)] 27))
      replace x3 := Lib.hid (x3.out.alloc (by omega) (.cells #[.slice Ay ny cy, .int .i64 (P), .slice Ay' ny' cy', .int .i64 (Q), .slice Ey my ky, .int .i64 (yd)] 27))
      replace Bx := Lib.hid (Bx.out.alloc (.cells #[.slice Ay ny cy, .int .i64 (P), .slice Ay' ny' cy', .int .i64 (Q), .slice Ey my ky, .int .i64 (yd)] 27))
      replace y1 := Lib.hid (y1.out.alloc (by omega) (.cells #[.slice Ay ny cy, .int .i64 (P), .slice Ay' ny' cy', .int .i64 (Q), .slice Ey my ky, .int .i64 (yd)] 27))
      replace y2 := Lib.hid (y2.out.alloc (by omega) (.cells #[.slice Ay ny cy, .int .i64 (P), .slice Ay' ny' cy', .int .i64 (Q), .slice Ey my ky, .int .i64 (yd)] 27))
      replace y3 := Lib.hid (y3.out.alloc (by omega) (.cells #[.slice Ay ny cy, .int .i64 (P), .slice Ay' ny' cy', .int .i64 (Q), .slice Ey my ky, .int .i64 (yd)] 27))
      replace EB := Lib.hid (EB.out.alloc (by omega) (.cells #[.slice Ay ny cy, .int .i64 (P), .slice Ay' ny' cy', .int .i64 (Q), .slice Ey my ky, .int .i64 (yd)] 27))
      have By := Lib.hid (Box.new w5 27 [.slice Ay ny cy, .int .i64 (P), .slice Ay' ny' cy', .int .i64 (Q), .slice Ey my ky, .int .i64 (yd)])
      have s6 : w5.heap.size + 1 ≤ (w5.alloc (.cells #[.slice Ay ny cy, .int .i64 (P), .slice Ay' ny' cy', .int .i64 (Q), .slice Ey my ky, .int .i64 (yd)] 27)).heap.size := by simp
      generalize w5.alloc (.cells #[.slice Ay ny cy, .int .i64 (P), .slice Ay' ny' cy', .int .i64 (Q), .slice Ey my ky, .int .i64 (yd)] 27) = w6 at *
      refine (equalWriter_same x1.out x2.out x3.out y1.out y2.out y3.out (by omega) (by omega) (by omega) (by omega) (by omega) (by omega)).mono ?_
      rintro e w7 ⟨rfl, hb⟩
      (try simp only [World.size_alloc, World.size_setCell, World.size_drew] at hb)
      have HB := Lib.hid hb
      clear hb
      have s7 := HB.out.size
      (try simp only [World.size_alloc, World.size_setCell, World.size_drew] at s7)
      replace d1 := Lib.hid (d1.out.below HB.out (by omega))
      replace d2 := Lib.hid (d2.out.below HB.out (by omega))
      replace d3 := Lib.hid (d3.out.below HB.out (by omega))
      replace Bd := Lib.hid (Bd.out.below HB.out (by omega))
      replace x1 := Lib.hid (x1.out.below HB.out (by omega))
      replace x2 := Lib.hid (x2.out.below HB.out (by omega))
      replace x3 := Lib.hid (x3.out.below HB.out (by omega))
      replace Bx := Lib.hid (Bx.out.below HB.out (by omega))
      replace y1 := Lib.hid (y1.out.below HB.out (by omega))
      replace y2 := Lib.hid (y2.out.below HB.out (by omega))
      replace y3 := Lib.hid (y3.out.below HB.out (by omega))
      replace By := Lib.hid (By.out.below HB.out (by omega))
      replace EB := Lib.hid (below_step HB.out EB.out (by omega))
      clear HB
      have hxs := RL.out; have hxd := DL.out
      have hnx : nx ≤ 61 := by have h1 := x1.out.len; omega
      have hnx' : nx' ≤ 61 := by have h1 := x2.out.len; have h2 := d2.out.len; omega
      have hmx : mx ≤ 61 := by have h1 := x3.out.len; omega
      have vdl := Bd.out.lt
      have vd0 := (Bd.out.2 0 _ rfl).1
      have vd1 := (Bd.out.2 1 _ rfl).1
      have vd2 := (Bd.out.2 2 _ rfl).1
      have vd3 := (Bd.out.2 3 _ rfl).1
      have vd4 := (Bd.out.2 4 _ rfl).1
      have vd5 := (Bd.out.2 5 _ rfl).1
      go_wp2_with fail
      refine (to_listN (SeenData_x d1.out d2.out d3.out (by omega) (by omega) (by omega) hcd hcd' hkd (by omega) (by omega) (by omega)) SV.out).mono ?_
      clear vdl vd0 vd1 vd2 vd3 vd4 vd5
      rintro e w8 ⟨As, ns, cs, rfl, hcs, hb, hl⟩
      (try simp only [World.size_alloc, World.size_setCell, World.size_drew] at hb)
      have HB := Lib.hid hb
      clear hb
      have s8 := HB.out.size
      (try simp only [World.size_alloc, World.size_setCell, World.size_drew] at s8)
      replace d1 := Lib.hid (d1.out.below HB.out (by omega))
      replace d2 := Lib.hid (d2.out.below HB.out (by omega))
      replace d3 := Lib.hid (d3.out.below HB.out (by omega))
      replace Bd := Lib.hid (Bd.out.below HB.out (by omega))
      replace x1 := Lib.hid (x1.out.below HB.out (by omega))
      replace x2 := Lib.hid (x2.out.below HB.out (by omega))
      replace x3 := Lib.hid (x3.out.below HB.out (by omega))
      replace Bx := Lib.hid (Bx.out.below HB.out (by omega))
      replace y1 := Lib.hid (y1.out.below HB.out (by omega))
      replace y2 := Lib.hid (y2.out.below HB.out (by omega))
      replace y3 := Lib.hid (y3.out.below HB.out (by omega))
      replace By := Lib.hid (By.out.below HB.out (by omega))
      replace EB := Lib.hid (below_step HB.out EB.out (by omega))
      clear HB
      have s1 := Lib.hid hl
      clear hl
      have vxl := Bx.out.lt
      have vx0 := (Bx.out.2 0 _ rfl).1
      have vx1 := (Bx.out.2 1 _ rfl).1
      have vx2 := (Bx.out.2 2 _ rfl).1
      have vx3 := (Bx.out.2 3 _ rfl).1
      have vx4 := (Bx.out.2 4 _ rfl).1
      have vx5 := (Bx.out.2 5 _ rfl).1
      have vdl := Bd.out.lt
      have vd0 := (Bd.out.2 0 _ rfl).1
      have vd1 := (Bd.out.2 1 _ rfl).1
      have vd2 := (Bd.out.2 2 _ rfl).1
      have vd3 := (Bd.out.2 3 _ rfl).1
      have vd4 := (Bd.out.2 4 _ rfl).1
      have vd5 := (Bd.out.2 5 _ rfl).1
      go_wp2_with fail
      refine wp_region_held_drew (S := (fun w' => (w'.cell? ⟨w3.heap.size, 0, none⟩ = some (.slice Ax nx cx) ∧ w'.cell? ⟨w3.heap.size, 1, none⟩ = some (.int .i64 (P)) ∧ w'.cell? ⟨w3.heap.size, 2, none⟩ = some (.slice Ax' nx' cx') ∧ w'.cell? ⟨w3.heap.size, 3, none⟩ = some (.int .i64 (Q)) ∧ w'.cell? ⟨w3.heap.size, 4, none⟩ = some (.slice Ex mx kx) ∧ w'.cell? ⟨w3.heap.size, 5, none⟩ = some (.int .i64 (yd))) ∧ (w'.cell? ⟨w1.heap.size, 0, none⟩ = some (.slice Ad nd cd) ∧ w'.cell? ⟨w1.heap.size, 1, none⟩ = some (.int .i64 (pd)) ∧ w'.cell? ⟨w1.heap.size, 2, none⟩ = some (.slice Ad' nd' cd') ∧ w'.cell? ⟨w1.heap.size, 3, none⟩ = some (.int .i64 (qd)) ∧ w'.cell? ⟨w1.heap.size, 4, none⟩ = some (.slice Ed md kd) ∧ w'.cell? ⟨w1.heap.size, 5, none⟩ = some (.int .i64 (yd))))) (by kernel_rfl) (by (try dsimp only); go_keep) (fun hHeld => ?_)
      refine wpAnyH_take (i := 0) (oi := ?oi243) (v := ?v243) ?hi243 (by kernel_rfl) (by kernel_rfl) (by kernel_rfl) ?hq243 (Or.inl ⟨?hw243, ?hy243⟩) (by assumption) ?_
      case hi243 => simp only [List.getElem?_toArray, List.getElem?_cons_succ, List.getElem?_cons_zero]; rfl
      case hw243 => rfl
      case hq243 => exact fun _ _ _ h => h
      case hy243 => intro w hSw; (try dsimp only at hSw); go_simp; (try with_reducible rfl)
      (try simp only [Act.put, List.setIfInBounds_toArray, List.set_cons_zero, List.set_cons_succ])
      refine wpAnyH_take (i := 1) (oi := ?oi244) (v := ?v244) ?hi244 (by kernel_rfl) (by kernel_rfl) (by kernel_rfl) ?hq244 (Or.inl ⟨?hw244, ?hy244⟩) (by assumption) ?_
      case hi244 => simp only [List.getElem?_toArray, List.getElem?_cons_succ, List.getElem?_cons_zero]; rfl
      case hw244 => rfl
      case hq244 => exact fun _ _ _ h => h
      case hy244 => intro w hSw; (try dsimp only at hSw); go_simp; (try with_reducible rfl)
      (try simp only [Act.put, List.setIfInBounds_toArray, List.set_cons_zero, List.set_cons_succ])
      refine wpAnyH_take (i := 2) (oi := ?oi245) (v := ?v245) ?hi245 (by kernel_rfl) (by kernel_rfl) (by kernel_rfl) ?hq245 (Or.inl ⟨?hw245, ?hy245⟩) (by assumption) ?_
      case hi245 => simp only [List.getElem?_toArray, List.getElem?_cons_succ, List.getElem?_cons_zero]; rfl
      case hw245 => rfl
      case hq245 => exact fun _ _ _ h => h
      case hy245 => intro w hSw; (try dsimp only at hSw); go_simp; (try with_reducible rfl)
      (try simp only [Act.put, List.setIfInBounds_toArray, List.set_cons_zero, List.set_cons_succ])
      refine wpAnyH_take (i := 3) (oi := ?oi246) (v := undef) ?hi246 (by kernel_rfl) (by kernel_rfl) (by kernel_rfl) ?hq246 (Or.inr ⟨?hw246, rfl⟩) (by assumption) ?_
      case hi246 => simp only [List.getElem?_toArray, List.getElem?_cons_succ, List.getElem?_cons_zero]; rfl
      case hw246 => rfl
      case hq246 => exact fun _ _ _ h => h
      (try simp only [Act.put, List.setIfInBounds_toArray, List.set_cons_zero, List.set_cons_succ])
      refine wpAnyH_take (i := 4) (oi := ?oi247) (v := undef) ?hi247 (by kernel_rfl) (by kernel_rfl) (by kernel_rfl) ?hq247 (Or.inr ⟨?hw247, rfl⟩) (by assumption) ?_
      case hi247 => simp only [List.getElem?_toArray, List.getElem?_cons_succ, List.getElem?_cons_zero]; rfl
      case hw247 => rfl
      case hq247 => exact fun _ _ _ h => h
      (try simp only [Act.put, List.setIfInBounds_toArray, List.set_cons_zero, List.set_cons_succ])
      refine wpAnyH_take (i := 5) (oi := ?oi248) (v := undef) ?hi248 (by kernel_rfl) (by kernel_rfl) (by kernel_rfl) ?hq248 (Or.inr ⟨?hw248, rfl⟩) (by assumption) ?_
      case hi248 => simp only [List.getElem?_toArray, List.getElem?_cons_succ, List.getElem?_cons_zero]; rfl
      case hw248 => rfl
      case hq248 => exact fun _ _ _ h => h
      (try simp only [Act.put, List.setIfInBounds_toArray, List.set_cons_zero, List.set_cons_succ])
      refine wpAnyH_take (i := 6) (oi := ?oi249) (v := undef) ?hi249 (by kernel_rfl) (by kernel_rfl) (by kernel_rfl) ?hq249 (Or.inr ⟨?hw249, rfl⟩) (by assumption) ?_
      case hi249 => simp only [List.getElem?_toArray, List.getElem?_cons_succ, List.getElem?_cons_zero]; rfl
      case hw249 => rfl
      case hq249 => exact fun _ _ _ h => h
      (try simp only [Act.put, List.setIfInBounds_toArray, List.set_cons_zero, List.set_cons_succ])
      refine wpAnyH_take (i := 7) (oi := ?oi250) (v := undef) ?hi250 (by kernel_rfl) (by kernel_rfl) (by kernel_rfl) ?hq250 (Or.inr ⟨?hw250, rfl⟩) (by assumption) ?_
      case hi250 => simp only [List.getElem?_toArray, List.getElem?_cons_succ, List.getElem?_cons_zero]; rfl
      case hw250 => rfl
      case hq250 => exact fun _ _ _ h => h
      (try simp only [Act.put, List.setIfInBounds_toArray, List.set_cons_zero, List.set_cons_succ])
      refine wpAnyH_take (i := 8) (oi := ?oi251) (v := undef) ?hi251 (by kernel_rfl) (by kernel_rfl) (by kernel_rfl) ?hq251 (Or.inr ⟨?hw251, rfl⟩) (by assumption) ?_
      case hi251 => simp only [List.getElem?_toArray, List.getElem?_cons_succ, List.getElem?_cons_zero]; rfl
      case hw251 => rfl
      case hq251 => exact fun _ _ _ h => h
      (try simp only [Act.put, List.setIfInBounds_toArray, List.set_cons_zero, List.set_cons_succ])
      refine wpAnyH_take (i := 9) (oi := ?oi252) (v := undef) ?hi252 (by kernel_rfl) (by kernel_rfl) (by kernel_rfl) ?hq252 (Or.inr ⟨?hw252, rfl⟩) (by assumption) ?_
      case hi252 => simp only [List.getElem?_toArray, List.getElem?_cons_succ, List.getElem?_cons_zero]; rfl
      case hw252 => rfl
      case hq252 => exact fun _ _ _ h => h
      (try simp only [Act.put, List.setIfInBounds_toArray, List.set_cons_zero, List.set_cons_succ])
      refine wpAnyH_take (i := 10) (oi := ?oi253) (v := undef) ?hi253 (by kernel_rfl) (by kernel_rfl) (by kernel_rfl) ?hq253 (Or.inr ⟨?hw253, rfl⟩) (by assumption) ?_
      case hi253 => simp only [List.getElem?_toArray, List.getElem?_cons_succ, List.getElem?_cons_zero]; rfl
      case hw253 => rfl
      case hq253 => exact fun _ _ _ h => h
      (try simp only [Act.put, List.setIfInBounds_toArray, List.set_cons_zero, List.set_cons_succ])
      refine wpAnyH_take (i := 11) (oi := ?oi254) (v := undef) ?hi254 (by kernel_rfl) (by kernel_rfl) (by kernel_rfl) ?hq254 (Or.inr ⟨?hw254, rfl⟩) (by assumption) ?_
      case hi254 => simp only [List.getElem?_toArray, List.getElem?_cons_succ, List.getElem?_cons_zero]; rfl
      case hw254 => rfl
      case hq254 => exact fun _ _ _ h => h
      (try simp only [Act.put, List.setIfInBounds_toArray, List.set_cons_zero, List.set_cons_succ])
      refine wpAnyH_take (i := 12) (oi := ?oi255) (v := undef) ?hi255 (by kernel_rfl) (by kernel_rfl) (by kernel_rfl) ?hq255 (Or.inr ⟨?hw255, rfl⟩) (by assumption) ?_
      case hi255 => simp only [List.getElem?_toArray, List.getElem?_cons_succ, List.getElem?_cons_zero]; rfl
      case hw255 => rfl
      case hq255 => exact fun _ _ _ h => h
      (try simp only [Act.put, List.setIfInBounds_toArray, List.set_cons_zero, List.set_cons_succ])
      refine wpAnyH_take (i := 13) (oi := ?oi256) (v := undef) ?hi256 (by kernel_rfl) (by kernel_rfl) (by kernel_rfl) ?hq256 (Or.inr ⟨?hw256, rfl⟩) (by assumption) ?_
      case hi256 => simp only [List.getElem?_toArray, List.getElem?_cons_succ, List.getElem?_cons_zero]; rfl
      case hw256 => rfl
      case hq256 => exact fun _ _ _ h => h
      (try simp only [Act.put, List.setIfInBounds_toArray, List.set_cons_zero, List.set_cons_succ])
      refine wpAnyH_take (i := 14) (oi := ?oi257) (v := undef) ?hi257 (by kernel_rfl) (by kernel_rfl) (by kernel_rfl) ?hq257 (Or.inr ⟨?hw257, rfl⟩) (by assumption) ?_
      case hi257 => simp only [List.getElem?_toArray, List.getElem?_cons_succ, List.getElem?_cons_zero]; rfl
      case hw257 => rfl
      case hq257 => exact fun _ _ _ h => h
      (try simp only [Act.put, List.setIfInBounds_toArray, List.set_cons_zero, List.set_cons_succ])
      refine wpAnyH_take (i := 15) (oi := ?oi258) (v := undef) ?hi258 (by kernel_rfl) (by kernel_rfl) (by kernel_rfl) ?hq258 (Or.inr ⟨?hw258, rfl⟩) (by assumption) ?_
      case hi258 => simp only [List.getElem?_toArray, List.getElem?_cons_succ, List.getElem?_cons_zero]; rfl
      case hw258 => rfl
      case hq258 => exact fun _ _ _ h => h
      (try simp only [Act.put, List.setIfInBounds_toArray, List.set_cons_zero, List.set_cons_succ])
      refine wpAnyH_take (i := 16) (oi := ?oi259) (v := undef) ?hi259 (by kernel_rfl) (by kernel_rfl) (by kernel_rfl) ?hq259 (Or.inr ⟨?hw259, rfl⟩) (by assumption) ?_
      case hi259 => simp only [List.getElem?_toArray, List.getElem?_cons_succ, List.getElem?_cons_zero]; rfl
      case hw259 => rfl
      case hq259 => exact fun _ _ _ h => h
      (try simp only [Act.put, List.setIfInBounds_toArray, List.set_cons_zero, List.set_cons_succ])
      refine wpAnyH_take (i := 17) (oi := ?oi260) (v := undef) ?hi260 (by kernel_rfl) (by kernel_rfl) (by kernel_rfl) ?hq260 (Or.inr ⟨?hw260, rfl⟩) (by assumption) ?_
      case hi260 => simp only [List.getElem?_toArray, List.getElem?_cons_succ, List.getElem?_cons_zero]; rfl
      case hw260 => rfl
      case hq260 => exact fun _ _ _ h => h
      (try simp only [Act.put, List.setIfInBounds_toArray, List.set_cons_zero, List.set_cons_succ])
      refine wpAnyH_take (i := 18) (oi := ?oi261) (v := undef) ?hi261 (by kernel_rfl) (by kernel_rfl) (by kernel_rfl) ?hq261 (Or.inr ⟨?hw261, rfl⟩) (by assumption) ?_
      case hi261 => simp only [List.getElem?_toArray, List.getElem?_cons_succ, List.getElem?_cons_zero]; rfl
      case hw261 => rfl
      case hq261 => exact fun _ _ _ h => h
      (try simp only [Act.put, List.setIfInBounds_toArray, List.set_cons_zero, List.set_cons_succ])
      refine wpAnyH_ready (rs := [19]) (by kernel_rfl) (by simp) ?_
      refine AllReadyH.cons (o := ?o262) ?ho262 (fun K hK => ?_) AllReadyH.nil
      case ho262 => simp only [List.getElem?_toArray, List.getElem?_cons_succ, List.getElem?_cons_zero]; rfl
      go_simp
      clear hHeld
      refine hK.out _ _ (by (try dsimp only); go_keep) (fun hHeld => ?_)
      clear hK K
      (try simp only [Act.put, List.setIfInBounds_toArray, List.set_cons_zero, List.set_cons_succ])
      refine wpAnyH_take (i := 20) (oi := ?oi263) (v := undef) ?hi263 (by kernel_rfl) (by kernel_rfl) (by kernel_rfl) ?hq263 (Or.inr ⟨?hw263, rfl⟩) (by assumption) ?_
      case hi263 => simp only [List.getElem?_toArray, List.getElem?_cons_succ, List.getElem?_cons_zero]; rfl
      case hw263 => rfl
      case hq263 => exact fun _ _ _ h => h
      (try simp only [Act.put, List.setIfInBounds_toArray, List.set_cons_zero, List.set_cons_succ])
      refine wpAnyH_take (i := 21) (oi := ?oi264) (v := undef) ?hi264 (by kernel_rfl) (by kernel_rfl) (by kernel_rfl) ?hq264 (Or.inr ⟨?hw264, rfl⟩) (by assumption) ?_
      case hi264 => simp only [List.getElem?_toArray, List.getElem?_cons_succ, List.getElem?_cons_zero]; rfl
      case hw264 => rfl
      case hq264 => exact fun _ _ _ h => h
      (try simp only [Act.put, List.setIfInBounds_toArray, List.set_cons_zero, List.set_cons_succ])
      refine wpAnyH_take (i := 22) (oi := ?oi265) (v := undef) ?hi265 (by kernel_rfl) (by kernel_rfl) (by kernel_rfl) ?hq265 (Or.inr ⟨?hw265, rfl⟩) (by assumption) ?_
      case hi265 => simp only [List.getElem?_toArray, List.getElem?_cons_succ, List.getElem?_cons_zero]; rfl
      case hw265 => rfl
      case hq265 => exact fun _ _ _ h => h
      (try simp only [Act.put, List.setIfInBounds_toArray, List.set_cons_zero, List.set_cons_succ])
      refine wpAnyH_take (i := 23) (oi := ?oi266) (v := undef) ?hi266 (by kernel_rfl) (by kernel_rfl) (by kernel_rfl) ?hq266 (Or.inr ⟨?hw266, rfl⟩) (by assumption) ?_
      case hi266 => simp only [List.getElem?_toArray, List.getElem?_cons_succ, List.getElem?_cons_zero]; rfl
      case hw266 => rfl
      case hq266 => exact fun _ _ _ h => h
      (try simp only [Act.put, List.setIfInBounds_toArray, List.set_cons_zero, List.set_cons_succ])
      refine wpAnyH_take (i := 24) (oi := ?oi267) (v := undef) ?hi267 (by kernel_rfl) (by kernel_rfl) (by kernel_rfl) ?hq267 (Or.inr ⟨?hw267, rfl⟩) (by assumption) ?_
      case hi267 => simp only [List.getElem?_toArray, List.getElem?_cons_succ, List.getElem?_cons_zero]; rfl
      case hw267 => rfl
      case hq267 => exact fun _ _ _ h => h
      (try simp only [Act.put, List.setIfInBounds_toArray, List.set_cons_zero, List.set_cons_succ])
      refine wpAnyH_take (i := 25) (oi := ?oi268) (v := undef) ?hi268 (by kernel_rfl) (by kernel_rfl) (by kernel_rfl) ?hq268 (Or.inr ⟨?hw268, rfl⟩) (by assumption) ?_
      case hi268 => simp only [List.getElem?_toArray, List.getElem?_cons_succ, List.getElem?_cons_zero]; rfl
      case hw268 => rfl
      case hq268 => exact fun _ _ _ h => h
      (try simp only [Act.put, List.setIfInBounds_toArray, List.set_cons_zero, List.set_cons_succ])
      refine wpAnyH_take (i := 26) (oi := ?oi269) (v := undef) ?hi269 (by kernel_rfl) (by kernel_rfl) (by kernel_rfl) ?hq269 (Or.inr ⟨?hw269, rfl⟩) (by assumption) ?_
      case hi269 => simp only [List.getElem?_toArray, List.getElem?_cons_succ, List.getElem?_cons_zero]; rfl
      case hw269 => rfl
      case hq269 => exact fun _ _ _ h => h
      (try simp only [Act.put, List.setIfInBounds_toArray, List.set_cons_zero, List.set_cons_succ])
      refine wpAnyH_take (i := 27) (oi := ?oi270) (v := undef) ?hi270 (by kernel_rfl) (by kernel_rfl) (by kernel_rfl) ?hq270 (Or.inr ⟨?hw270, rfl⟩) (by assumption) ?_
      case hi270 => simp only [List.getElem?_toArray, List.getElem?_cons_succ, List.getElem?_cons_zero]; rfl
      case hw270 => rfl
      case hq270 => exact fun _ _ _ h => h
      (try simp only [Act.put, List.setIfInBounds_toArray, List.set_cons_zero, List.set_cons_succ])
      refine wpAnyH_take (i := 28) (oi := ?oi271) (v := undef) ?hi271 (by kernel_rfl) (by kernel_rfl) (by kernel_rfl) ?hq271 (Or.inr ⟨?hw271, rfl⟩) (by assumption) ?_
      case hi271 => simp only [List.getElem?_toArray, List.getElem?_cons_succ, List.getElem?_cons_zero]; rfl
      case hw271 => rfl
      case hq271 => exact fun _ _ _ h => h
      (try simp only [Act.put, List.setIfInBounds_toArray, List.set_cons_zero, List.set_cons_succ])
      refine wpAnyH_take (i := 30) (oi := ?oi272) (v := undef) ?hi272 (by kernel_rfl) (by kernel_rfl) (by kernel_rfl) ?hq272 (Or.inr ⟨?hw272, rfl⟩) (by assumption) ?_
      case hi272 => simp only [List.getElem?_toArray, List.getElem?_cons_succ, List.getElem?_cons_zero]; rfl
      case hw272 => rfl
      case hq272 => exact fun _ _ _ h => h
      (try simp only [Act.put, List.setIfInBounds_toArray, List.set_cons_zero, List.set_cons_succ])
      refine wpAnyH_ready (rs := [29]) (by kernel_rfl) (by simp) ?_
      refine AllReadyH.cons (o := ?o273) ?ho273 (fun K hK => ?_) AllReadyH.nil
      case ho273 => simp only [List.getElem?_toArray, List.getElem?_cons_succ, List.getElem?_cons_zero]; rfl
      go_simp
      clear hHeld
      refine hK.out _ _ (by (try dsimp only); go_keep) (fun hHeld => ?_)
      clear hK K
      (try simp only [Act.put, List.setIfInBounds_toArray, List.set_cons_zero, List.set_cons_succ])
      refine wpAnyH_ready (rs := [31]) (by kernel_rfl) (by simp) ?_
      refine AllReadyH.cons (o := ?o274) ?ho274 (fun K hK => ?_) AllReadyH.nil
      case ho274 => simp only [List.getElem?_toArray, List.getElem?_cons_succ, List.getElem?_cons_zero]; rfl
      go_simp
      clear hHeld
      refine hK.out _ _ (by (try dsimp only); go_keep) (fun hHeld => ?_)
      clear hK K
      (try simp only [Act.put, List.setIfInBounds_toArray, List.set_cons_zero, List.set_cons_succ])
      refine wpAnyH_take (i := 32) (oi := ?oi275) (v := undef) ?hi275 (by kernel_rfl) (by kernel_rfl) (by kernel_rfl) ?hq275 (Or.inr ⟨?hw275, rfl⟩) (by assumption) ?_
      case hi275 => simp only [List.getElem?_toArray, List.getElem?_cons_succ, List.getElem?_cons_zero]; rfl
      case hw275 => rfl
      case hq275 => exact fun _ _ _ h => h
      (try simp only [Act.put, List.setIfInBounds_toArray, List.set_cons_zero, List.set_cons_succ])
      refine wpAnyH_take (i := 33) (oi := ?oi276) (v := undef) ?hi276 (by kernel_rfl) (by kernel_rfl) (by kernel_rfl) ?hq276 (Or.inr ⟨?hw276, rfl⟩) (by assumption) ?_
      case hi276 => simp only [List.getElem?_toArray, List.getElem?_cons_succ, List.getElem?_cons_zero]; rfl
      case hw276 => rfl
      case hq276 => exact fun _ _ _ h => h
      (try simp only [Act.put, List.setIfInBounds_toArray, List.set_cons_zero, List.set_cons_succ])
      refine wpAnyH_take (i := 34) (oi := ?oi277) (v := ?v277) ?hi277 (by kernel_rfl) (by kernel_rfl) (by kernel_rfl) ?hq277 (Or.inl ⟨?hw277, ?hy277⟩) (by assumption) ?_
      case hi277 => simp only [List.getElem?_toArray, List.getElem?_cons_succ, List.getElem?_cons_zero]; rfl
      case hw277 => rfl
      case hq277 => exact fun _ _ _ h => h
      case hy277 => intro w hSw; (try dsimp only at hSw); go_simp; (try with_reducible rfl)
      (try simp only [Act.put, List.setIfInBounds_toArray, List.set_cons_zero, List.set_cons_succ])
      refine wpAnyH_take (i := 35) (oi := ?oi278) (v := ?v278) ?hi278 (by kernel_rfl) (by kernel_rfl) (by kernel_rfl) ?hq278 (Or.inl ⟨?hw278, ?hy278⟩) (by assumption) ?_
      case hi278 => simp only [List.getElem?_toArray, List.getElem?_cons_succ, List.getElem?_cons_zero]; rfl
      case hw278 => rfl
      case hq278 => exact fun _ _ _ h => h
      case hy278 => intro w hSw; (try dsimp only at hSw); go_simp; (try with_reducible rfl)
      (try simp only [Act.put, List.setIfInBounds_toArray, List.set_cons_zero, List.set_cons_succ])
      refine wpAnyH_done (by kernel_rfl) ?_ _
      go_wp2
      go_ret
      exact ⟨rfl, EB.out.drew⟩
theorem contract (H : Type) (enc : TypeId × Value → H) (W : World) (base : Nat) (args : Array Value) (ds gs : List (DataW H)) (before : List MemPlace)
    (hval : ∀ (j : Nat) t v, Tryd.f6.params[j]? = some t → args[j]? = some v → Value.okWide Tryd.prog W .any base t v)
    (hW : DataW.Whole enc Tryd.prog Tryd.f6.params.toList Rows.fnCutWriterSpec.vars false W args.toList ds gs before) (hL : laidMetH Tryd.prog laid3 W) :
    Calls Tryd.prog 6 args W fun e W' => ∃ v, e = .returned v ∧ Rows.fnCutWriterSpec.post enc Tryd.prog Tryd.f6 false true false false W args v W' := by
  have hW' := hW
  have hlt : ∀ p ∈ before, p.block < W.heap.size := fun p hp => hW.lt p hp
  obtain ⟨p, q, hA0, hV0, rfl, hfz, hnd⟩ := hW
  have hA : DataW.TrodAll enc Tryd.prog W 0 (fun _ => true) true Tryd.f6.params.toList args.toList ds p := hA0
  have hV : DataW.TrodVars enc Tryd.prog W (fun _ => true) ["loop.example/streamlayers/impl.errNone", "loop.example/streamlayers/impl.errFault", "loop.example/streamlayers/impl.errFull"] gs q := hV0
  rw [Tryd.params6] at hA hval
  obtain ⟨v0, vs0, d0, ds0, p0, q0, hargs, rfl, rfl, h0, r0⟩ := trodAll_cons hA
  obtain ⟨rfl, rfl, rfl⟩ := trodAll_nil r0
  obtain rfl : args = #[v0] := by cases args; simp_all
  obtain ⟨a0, a1, a2, ⟨hv0, hv1, hv2⟩, ⟨n01, n02, n12⟩, w0, w1, w2⟩ := laid3_gives hL
  have hE := errs_of hv0 hv1 hv2 n01 n02 n12 w0 w1 w2
  have lt0 := hE.1.1.1
  have lt1 := hE.1.1.2.1
  have lt2 := hE.1.1.2.2
  have vr : ∀ {X : World}, Below W.heap.size W X → ∀ sp : Nat → Bool, DataW.TrodVars enc Tryd.prog X sp ["loop.example/streamlayers/impl.errNone", "loop.example/streamlayers/impl.errFault", "loop.example/streamlayers/impl.errFull"] [tok enc (errAt a0), tok enc (errAt a1), tok enc (errAt a2)] [.cell 0 0, .cell 1 0, .cell 2 0] := fun hb sp => vars_read3 enc (var?_below hb (by kernel_rfl) lt0 hv0) (var?_below hb (by kernel_rfl) lt1 hv1) (var?_below hb (by kernel_rfl) lt2 hv2) trivial trivial trivial sp
  obtain ⟨rfl, rfl⟩ := hV.unique (vr (Below.refl _ _) _)
  obtain ⟨A, n, c, rfl, hnc, hby, hmx⟩ := arg_bytes (hval 0 _ v0 rfl rfl) h0 (fun p hp => hlt p (by simp [hp]))
  refine (walk A n c W hby hnc hmx hE).mono fun e W' hh => ?_
  obtain ⟨rfl, hb⟩ := hh
  exact ⟨_, rfl, law_postV laidOut (tys_of (by rw [Tryd.params6]; kernel_rfl)) hW' (fun sp => vr hb sp) rfl rfl Tryd.underlying4 hb⟩

set_option maxRecDepth 100000 in
theorem lifted (os : Os) (started : os.Started) (H : Type) (enc : TypeId × Value → H) :
    ReturnsInHanded {} Tryd.checked os 6 .any (fun w args => (Rows.fnCutWriterSpec.pre enc Tryd.prog Tryd.f6 [] false w args ∧ laidMetH Tryd.prog laid3 w) ∧ sizedMet enc Tryd.prog Tryd.f6 (OpenSpec.ofChange Rows.fnCutWriterSpec) false w args) (Rows.fnCutWriterSpec.post enc Tryd.prog Tryd.f6 false true false false) := by
  refine returnsInHanded_of_change_and (C := Tryd.checked) (X := fun w _ => laidMetH Tryd.prog laid3 w) (fun _ _ _ hh h => h.of_heap hh) own started (by kernel_rfl) Tryd.func6
    (ChangeSpec.witness_shaped (enc := enc) (C := Tryd.checked) (os := os) (X := fun w _ => laidMetH Tryd.prog laid3 w) false (World.doorLaid Tryd.prog 85 os) #[.slice none 0 0] 8 rfl (World.shaped_of_RefB (by kernel_rfl) (by kernel_rfl)) (by kernel_rfl) (by kernel_rfl) (by kernel_rfl) (door_met3 os _)) ?_
  intro W base args ds gs before hval hW _ _ hL _
  exact contract H enc W base args ds gs before hval hW hL

theorem row : Rows.FnCutWriterSaid :=
  OpenClaim.holds_of_wide 6 Tryd.f6 rfl rfl rfl rfl rfl rfl rfl ⟨rfl, rfl, rfl, rfl, rfl⟩ rfl rfl rfl rfl rfl (by kernel_rfl) Tryd.func6 (by kernel_rfl)
    (of_decide_eq_true (by kernel_rfl)) (by unfold Func.isWrapper; first | (rw [if_pos (by decide +kernel)]; kernel_rfl) | (rw [if_neg (by decide +kernel)]; exact ⟨rfl, rfl⟩))
    (fun os started H enc _ => lifted os started H enc)

theorem holds : Rows.FnCutWriterCardSaid :=
  Claim7.holds_tied_plain_at .later [] [.sentinel, .sentinel, .sentinel] true _ true
    row (fun _ h => by cases h) (by kernel_rfl) (fun _ h => by cases h) fnCutWriter_row_tie rfl ⟨rfl, rfl⟩ (by kernel_rfl) rfl
    (fun f fn hf hfn => by
      obtain rfl : f = 6 := Option.some.inj ((show Tryd.prog.funcNamed "loop.example/streamlayers/laws.FnCutWriter" = some 6 by kernel_rfl).symm.trans hf) |>.symm
      obtain rfl : fn = Tryd.f6 := (Option.some.inj (Tryd.func6.symm.trans hfn)).symm
      exact ⟨by kernel_rfl, fun j t ht => by
        have hm : t ∈ Tryd.f6.params.toList := Array.mem_toList_iff.2 (Array.mem_of_getElem? ht)
        have hall : (Tryd.f6.params.toList.all fun t => !(Tryd.prog.wantsStandIn t)) = true := by kernel_rfl
        have h9 := List.all_eq_true.1 hall t hm
        show Tryd.prog.wantsStandIn t = false
        simpa using h9⟩)
    (by kernel_rfl)
end LawCutWriter
end Go.Proofs.YtdgfcbnfhengiaaDoor
