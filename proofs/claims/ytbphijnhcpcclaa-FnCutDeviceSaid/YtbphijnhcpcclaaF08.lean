/- The law of promise 08: a device that was cut has as many bytes as was told, those of before as far as they go, and 0 behind them. No conditions. -/
import Derived.Test.YtbphijnhcpcclaaK1
import Derived.Test.YtbphijnhcpcclaaG2
set_option maxRecDepth 10000
namespace Go.Proofs.Ytbphijnhcpcclaa
open Go.ChangeShapes Go.WideShapes Go.ChangeAt Go.RowKit
set_option linter.unusedSimpArgs false
set_option linter.unusedVariables false
namespace LawCutDevice
set_option maxHeartbeats 8000000 in
theorem walk (A : Option Addr) (n c : Nat) (w : World) (h : BytesIn w w.heap.size A n) (hnc : n ≤ c) (hm : n ≤ 9223372036854775807) :
    Calls Try.prog 6 #[.slice A n c] w (BoolB true w) := by
  have HBY := Lib.hid h
  clear h
  have EB := Lib.hid (Below.refl w.heap.size w)
  by_cases hbig : (1048576 : Int) < (n : Int)
  · go_enter Try.func6, Try.ntmps6
    go_wp2
    go_ret
    exact ⟨rfl, Below.refl _ _⟩
  go_enter Try.func6, Try.ntmps6
  go_wp2_with fail
  refine (DrawCutDevice_any HBY.out (by omega) hnc).mono ?_
  rintro e w1 ⟨Ad, nd, cd, Ad', nd', cd', Dd, Sd, pd, qd, zn, rfl, ⟨⟨hcd, hcd'⟩, hb, hd, hd', ⟨hnd, hnd'⟩, hpd, hqd⟩, hzn⟩
  (try simp only [World.size_alloc, World.size_setCell, World.size_drew] at hb)
  have HB := Lib.hid hb
  clear hb
  have s1 := HB.out.size
  (try simp only [World.size_alloc, World.size_setCell, World.size_drew] at s1)
  replace EB := Lib.hid (below_step HB.out EB.out (by omega))
  clear HB
  have d1 := Lib.hid hd
  have d2 := Lib.hid hd'
  clear hd hd' HBY
  go_wp2_with fail
  replace d1 := Lib.hid (d1.out.alloc (by omega) (.cells #[.slice Ad nd cd, .int .i64 (pd), .slice Ad' nd' cd', .int .i64 (qd)] 27))
  replace d2 := Lib.hid (d2.out.alloc (by omega) (.cells #[.slice Ad nd cd, .int .i64 (pd), .slice Ad' nd' cd', .int .i64 (qd)] 27))
  replace EB := Lib.hid (EB.out.alloc (by omega) (.cells #[.slice Ad nd cd, .int .i64 (pd), .slice Ad' nd' cd', .int .i64 (qd)] 27))
  have Bd := Lib.hid (Box.new w1 27 [.slice Ad nd cd, .int .i64 (pd), .slice Ad' nd' cd', .int .i64 (qd)])
  have s2 : w1.heap.size + 1 ≤ (w1.alloc (.cells #[.slice Ad nd cd, .int .i64 (pd), .slice Ad' nd' cd', .int .i64 (qd)] 27)).heap.size := by simp
  generalize w1.alloc (.cells #[.slice Ad nd cd, .int .i64 (pd), .slice Ad' nd' cd', .int .i64 (qd)] 27) = w2 at *
  cases hok : (cutOut Dd pd Sd qd zn).2
  · refine (to_db (CutDevice_x d1.out d2.out (by omega) (by omega) hcd hcd' (by omega) (by omega) (by unfold okInt; omega)) (cut_no hok)).mono ?_
    rintro e w3 ⟨Ax, nx, cx, Ax', nx', cx', rfl, ⟨hcx, hcx'⟩, hb, ⟨hd, hd', _, _, _⟩⟩
    (try simp only [World.size_alloc, World.size_setCell, World.size_drew] at hb)
    have HB := Lib.hid hb
    clear hb
    have s3 := HB.out.size
    (try simp only [World.size_alloc, World.size_setCell, World.size_drew] at s3)
    replace d1 := Lib.hid (d1.out.below HB.out (by omega))
    replace d2 := Lib.hid (d2.out.below HB.out (by omega))
    replace Bd := Lib.hid (Bd.out.below HB.out (by omega))
    replace EB := Lib.hid (below_step HB.out EB.out (by omega))
    clear HB
    have x1 := Lib.hid hd
    have x2 := Lib.hid hd'
    clear hd hd'
    have hnx : nx ≤ 1048576 := by have h1 := x1.out.len; have h2 := d1.out.len; (try simp only [List.length_nil, cutL_len] at h1); omega
    have hnx' : nx' ≤ 1048576 := by have h1 := x2.out.len; have h2 := d2.out.len; (try simp only [List.length_nil] at h1); omega
    have vdl := Bd.out.lt
    have vd0 := (Bd.out.2 0 _ rfl).1
    have vd1 := (Bd.out.2 1 _ rfl).1
    have vd2 := (Bd.out.2 2 _ rfl).1
    have vd3 := (Bd.out.2 3 _ rfl).1
    go_wp2_with fail
    clear vdl vd0 vd1 vd2 vd3
    replace d1 := Lib.hid (d1.out.alloc (by omega) (.cells #[.slice Ax nx cx, .int .i64 (0), .slice Ax' nx' cx', .int .i64 (0)] 27))
    replace d2 := Lib.hid (d2.out.alloc (by omega) (.cells #[.slice Ax nx cx, .int .i64 (0), .slice Ax' nx' cx', .int .i64 (0)] 27))
    replace Bd := Lib.hid (Bd.out.alloc (.cells #[.slice Ax nx cx, .int .i64 (0), .slice Ax' nx' cx', .int .i64 (0)] 27))
    replace x1 := Lib.hid (x1.out.alloc (by omega) (.cells #[.slice Ax nx cx, .int .i64 (0), .slice Ax' nx' cx', .int .i64 (0)] 27))
    replace x2 := Lib.hid (x2.out.alloc (by omega) (.cells #[.slice Ax nx cx, .int .i64 (0), .slice Ax' nx' cx', .int .i64 (0)] 27))
    replace EB := Lib.hid (EB.out.alloc (by omega) (.cells #[.slice Ax nx cx, .int .i64 (0), .slice Ax' nx' cx', .int .i64 (0)] 27))
    have Bx := Lib.hid (Box.new w3 27 [.slice Ax nx cx, .int .i64 (0), .slice Ax' nx' cx', .int .i64 (0)])
    have s4 : w3.heap.size + 1 ≤ (w3.alloc (.cells #[.slice Ax nx cx, .int .i64 (0), .slice Ax' nx' cx', .int .i64 (0)] 27)).heap.size := by simp
    generalize w3.alloc (.cells #[.slice Ax nx cx, .int .i64 (0), .slice Ax' nx' cx', .int .i64 (0)] 27) = w4 at *
    refine (to_db (SCutDevice_x d1.out d2.out (by omega) (by omega) hcd hcd' (by omega) (by omega) (by unfold okInt; omega)) (cut_no hok)).mono ?_
    rintro e w5 ⟨Ay, ny, cy, Ay', ny', cy', rfl, ⟨hcy, hcy'⟩, hb, ⟨hd, hd', _, _, _⟩⟩
    (try simp only [World.size_alloc, World.size_setCell, World.size_drew] at hb)
    have HB := Lib.hid hb
    clear hb
    have s5 := HB.out.size
    (try simp only [World.size_alloc, World.size_setCell, World.size_drew] at s5)
    replace d1 := Lib.hid (d1.out.below HB.out (by omega))
    replace d2 := Lib.hid (d2.out.below HB.out (by omega))
    replace Bd := Lib.hid (Bd.out.below HB.out (by omega))
    replace x1 := Lib.hid (x1.out.below HB.out (by omega))
    replace x2 := Lib.hid (x2.out.below HB.out (by omega))
    replace Bx := Lib.hid (Bx.out.below HB.out (by omega))
    replace EB := Lib.hid (below_step HB.out EB.out (by omega))
    clear HB
    have y1 := Lib.hid hd
    have y2 := Lib.hid hd'
    clear hd hd'
    have hny : ny ≤ 1048576 := by have h1 := y1.out.len; have h2 := d1.out.len; (try simp only [List.length_nil, cutL_len] at h1); omega
    have hny' : ny' ≤ 1048576 := by have h1 := y2.out.len; have h2 := d2.out.len; (try simp only [List.length_nil] at h1); omega
    have vxl := Bx.out.lt
    have vx0 := (Bx.out.2 0 _ rfl).1
    have vx1 := (Bx.out.2 1 _ rfl).1
    have vx2 := (Bx.out.2 2 _ rfl).1
    have vx3 := (Bx.out.2 3 _ rfl).1
    go_wp2_with fail
    clear vxl vx0 vx1 vx2 vx3
    replace d1 := Lib.hid (d1.out.alloc (by omega) (.cells #[.slice Ay ny cy, .int .i64 (0), .slice Ay' ny' cy', .int .i64 (0)] 27))
    replace d2 := Lib.hid (d2.out.alloc (by omega) (.cells #[.slice Ay ny cy, .int .i64 (0), .slice Ay' ny' cy', .int .i64 (0)] 27))
    replace Bd := Lib.hid (Bd.out.alloc (.cells #[.slice Ay ny cy, .int .i64 (0), .slice Ay' ny' cy', .int .i64 (0)] 27))
    replace x1 := Lib.hid (x1.out.alloc (by omega) (.cells #[.slice Ay ny cy, .int .i64 (0), .slice Ay' ny' cy', .int .i64 (0)] 27))
    replace x2 := Lib.hid (x2.out.alloc (by omega) (.cells #[.slice Ay ny cy, .int .i64 (0), .slice Ay' ny' cy', .int .i64 (0)] 27))
    replace Bx := Lib.hid (Bx.out.alloc (.cells #[.slice Ay ny cy, .int .i64 (0), .slice Ay' ny' cy', .int .i64 (0)] 27))
    replace y1 := Lib.hid (y1.out.alloc (by omega) (.cells #[.slice Ay ny cy, .int .i64 (0), .slice Ay' ny' cy', .int .i64 (0)] 27))
    replace y2 := Lib.hid (y2.out.alloc (by omega) (.cells #[.slice Ay ny cy, .int .i64 (0), .slice Ay' ny' cy', .int .i64 (0)] 27))
    replace EB := Lib.hid (EB.out.alloc (by omega) (.cells #[.slice Ay ny cy, .int .i64 (0), .slice Ay' ny' cy', .int .i64 (0)] 27))
    have By := Lib.hid (Box.new w5 27 [.slice Ay ny cy, .int .i64 (0), .slice Ay' ny' cy', .int .i64 (0)])
    have s6 : w5.heap.size + 1 ≤ (w5.alloc (.cells #[.slice Ay ny cy, .int .i64 (0), .slice Ay' ny' cy', .int .i64 (0)] 27)).heap.size := by simp
    generalize w5.alloc (.cells #[.slice Ay ny cy, .int .i64 (0), .slice Ay' ny' cy', .int .i64 (0)] 27) = w6 at *
    refine (equalDevice_same x1.out x2.out y1.out y2.out (by omega) (by omega) (by omega) (by omega)).mono ?_
    rintro e w7 ⟨rfl, hb⟩
    (try simp only [World.size_alloc, World.size_setCell, World.size_drew] at hb)
    have HB := Lib.hid hb
    clear hb
    have s7 := HB.out.size
    (try simp only [World.size_alloc, World.size_setCell, World.size_drew] at s7)
    replace d1 := Lib.hid (d1.out.below HB.out (by omega))
    replace d2 := Lib.hid (d2.out.below HB.out (by omega))
    replace Bd := Lib.hid (Bd.out.below HB.out (by omega))
    replace x1 := Lib.hid (x1.out.below HB.out (by omega))
    replace x2 := Lib.hid (x2.out.below HB.out (by omega))
    replace Bx := Lib.hid (Bx.out.below HB.out (by omega))
    replace y1 := Lib.hid (y1.out.below HB.out (by omega))
    replace y2 := Lib.hid (y2.out.below HB.out (by omega))
    replace By := Lib.hid (By.out.below HB.out (by omega))
    replace EB := Lib.hid (below_step HB.out EB.out (by omega))
    clear HB
    have vxl := Bx.out.lt
    have vx0 := (Bx.out.2 0 _ rfl).1
    have vx1 := (Bx.out.2 1 _ rfl).1
    have vx2 := (Bx.out.2 2 _ rfl).1
    have vx3 := (Bx.out.2 3 _ rfl).1
    have vyl := By.out.lt
    have vy0 := (By.out.2 0 _ rfl).1
    have vy1 := (By.out.2 1 _ rfl).1
    have vy2 := (By.out.2 2 _ rfl).1
    have vy3 := (By.out.2 3 _ rfl).1
    go_wp2_with fail
    refine (equalDevice_same x1.out x2.out y1.out y2.out (by omega) (by omega) (by omega) (by omega)).mono ?_
    clear vxl vx0 vx1 vx2 vx3 vyl vy0 vy1 vy2 vy3
    rintro e w8 ⟨rfl, hb⟩
    (try simp only [World.size_alloc, World.size_setCell, World.size_drew] at hb)
    have HB := Lib.hid hb
    clear hb
    have s8 := HB.out.size
    (try simp only [World.size_alloc, World.size_setCell, World.size_drew] at s8)
    replace d1 := Lib.hid (d1.out.below HB.out (by omega))
    replace d2 := Lib.hid (d2.out.below HB.out (by omega))
    replace Bd := Lib.hid (Bd.out.below HB.out (by omega))
    replace x1 := Lib.hid (x1.out.below HB.out (by omega))
    replace x2 := Lib.hid (x2.out.below HB.out (by omega))
    replace Bx := Lib.hid (Bx.out.below HB.out (by omega))
    replace y1 := Lib.hid (y1.out.below HB.out (by omega))
    replace y2 := Lib.hid (y2.out.below HB.out (by omega))
    replace By := Lib.hid (By.out.below HB.out (by omega))
    replace EB := Lib.hid (below_step HB.out EB.out (by omega))
    clear HB
    go_wp2
    go_ret
    exact ⟨rfl, EB.out⟩
  · obtain ⟨m, hzm, hm60, ho, hv⟩ := cut_yes hok
    subst hzm
    refine (to_db (CutDevice_x d1.out d2.out (by omega) (by omega) hcd hcd' (by omega) (by omega) (by unfold okInt; omega)) ho).mono ?_
    rintro e w3 ⟨Ax, nx, cx, Ax', nx', cx', rfl, ⟨hcx, hcx'⟩, hb, ⟨hd, hd', _, _, _⟩⟩
    (try simp only [World.size_alloc, World.size_setCell, World.size_drew] at hb)
    have HB := Lib.hid hb
    clear hb
    have s3 := HB.out.size
    (try simp only [World.size_alloc, World.size_setCell, World.size_drew] at s3)
    replace d1 := Lib.hid (d1.out.below HB.out (by omega))
    replace d2 := Lib.hid (d2.out.below HB.out (by omega))
    replace Bd := Lib.hid (Bd.out.below HB.out (by omega))
    replace EB := Lib.hid (below_step HB.out EB.out (by omega))
    clear HB
    have x1 := Lib.hid hd
    have x2 := Lib.hid hd'
    clear hd hd'
    have hnx : nx ≤ 1048576 := by have h1 := x1.out.len; rw [cutL_len] at h1; omega
    have hnx' : nx' ≤ 1048576 := by have h1 := x2.out.len; have h2 := d2.out.len; omega
    have vdl := Bd.out.lt
    have vd0 := (Bd.out.2 0 _ rfl).1
    have vd1 := (Bd.out.2 1 _ rfl).1
    have vd2 := (Bd.out.2 2 _ rfl).1
    have vd3 := (Bd.out.2 3 _ rfl).1
    go_wp2_with fail
    clear vdl vd0 vd1 vd2 vd3
    replace d1 := Lib.hid (d1.out.alloc (by omega) (.cells #[.slice Ax nx cx, .int .i64 (pd), .slice Ax' nx' cx', .int .i64 (qd)] 27))
    replace d2 := Lib.hid (d2.out.alloc (by omega) (.cells #[.slice Ax nx cx, .int .i64 (pd), .slice Ax' nx' cx', .int .i64 (qd)] 27))
    replace Bd := Lib.hid (Bd.out.alloc (.cells #[.slice Ax nx cx, .int .i64 (pd), .slice Ax' nx' cx', .int .i64 (qd)] 27))
    replace x1 := Lib.hid (x1.out.alloc (by omega) (.cells #[.slice Ax nx cx, .int .i64 (pd), .slice Ax' nx' cx', .int .i64 (qd)] 27))
    replace x2 := Lib.hid (x2.out.alloc (by omega) (.cells #[.slice Ax nx cx, .int .i64 (pd), .slice Ax' nx' cx', .int .i64 (qd)] 27))
    replace EB := Lib.hid (EB.out.alloc (by omega) (.cells #[.slice Ax nx cx, .int .i64 (pd), .slice Ax' nx' cx', .int .i64 (qd)] 27))
    have Bx := Lib.hid (Box.new w3 27 [.slice Ax nx cx, .int .i64 (pd), .slice Ax' nx' cx', .int .i64 (qd)])
    have s4 : w3.heap.size + 1 ≤ (w3.alloc (.cells #[.slice Ax nx cx, .int .i64 (pd), .slice Ax' nx' cx', .int .i64 (qd)] 27)).heap.size := by simp
    generalize w3.alloc (.cells #[.slice Ax nx cx, .int .i64 (pd), .slice Ax' nx' cx', .int .i64 (qd)] 27) = w4 at *
    refine (to_db (SCutDevice_x d1.out d2.out (by omega) (by omega) hcd hcd' (by omega) (by omega) (by unfold okInt; omega)) ho).mono ?_
    rintro e w5 ⟨Ay, ny, cy, Ay', ny', cy', rfl, ⟨hcy, hcy'⟩, hb, ⟨hd, hd', _, _, _⟩⟩
    (try simp only [World.size_alloc, World.size_setCell, World.size_drew] at hb)
    have HB := Lib.hid hb
    clear hb
    have s5 := HB.out.size
    (try simp only [World.size_alloc, World.size_setCell, World.size_drew] at s5)
    replace d1 := Lib.hid (d1.out.below HB.out (by omega))
    replace d2 := Lib.hid (d2.out.below HB.out (by omega))
    replace Bd := Lib.hid (Bd.out.below HB.out (by omega))
    replace x1 := Lib.hid (x1.out.below HB.out (by omega))
    replace x2 := Lib.hid (x2.out.below HB.out (by omega))
    replace Bx := Lib.hid (Bx.out.below HB.out (by omega))
    replace EB := Lib.hid (below_step HB.out EB.out (by omega))
    clear HB
    have y1 := Lib.hid hd
    have y2 := Lib.hid hd'
    clear hd hd'
    have hny : ny ≤ 1048576 := by have h1 := y1.out.len; rw [cutL_len] at h1; omega
    have hny' : ny' ≤ 1048576 := by have h1 := y2.out.len; have h2 := d2.out.len; omega
    have vxl := Bx.out.lt
    have vx0 := (Bx.out.2 0 _ rfl).1
    have vx1 := (Bx.out.2 1 _ rfl).1
    have vx2 := (Bx.out.2 2 _ rfl).1
    have vx3 := (Bx.out.2 3 _ rfl).1
    go_wp2_with fail
    clear vxl vx0 vx1 vx2 vx3
    replace d1 := Lib.hid (d1.out.alloc (by omega) (.cells #[.slice Ay ny cy, .int .i64 (pd), .slice Ay' ny' cy', .int .i64 (qd)] 27))
    replace d2 := Lib.hid (d2.out.alloc (by omega) (.cells #[.slice Ay ny cy, .int .i64 (pd), .slice Ay' ny' cy', .int .i64 (qd)] 27))
    replace Bd := Lib.hid (Bd.out.alloc (.cells #[.slice Ay ny cy, .int .i64 (pd), .slice Ay' ny' cy', .int .i64 (qd)] 27))
    replace x1 := Lib.hid (x1.out.alloc (by omega) (.cells #[.slice Ay ny cy, .int .i64 (pd), .slice Ay' ny' cy', .int .i64 (qd)] 27))
    replace x2 := Lib.hid (x2.out.alloc (by omega) (.cells #[.slice Ay ny cy, .int .i64 (pd), .slice Ay' ny' cy', .int .i64 (qd)] 27))
    replace Bx := Lib.hid (Bx.out.alloc (.cells #[.slice Ay ny cy, .int .i64 (pd), .slice Ay' ny' cy', .int .i64 (qd)] 27))
    replace y1 := Lib.hid (y1.out.alloc (by omega) (.cells #[.slice Ay ny cy, .int .i64 (pd), .slice Ay' ny' cy', .int .i64 (qd)] 27))
    replace y2 := Lib.hid (y2.out.alloc (by omega) (.cells #[.slice Ay ny cy, .int .i64 (pd), .slice Ay' ny' cy', .int .i64 (qd)] 27))
    replace EB := Lib.hid (EB.out.alloc (by omega) (.cells #[.slice Ay ny cy, .int .i64 (pd), .slice Ay' ny' cy', .int .i64 (qd)] 27))
    have By := Lib.hid (Box.new w5 27 [.slice Ay ny cy, .int .i64 (pd), .slice Ay' ny' cy', .int .i64 (qd)])
    have s6 : w5.heap.size + 1 ≤ (w5.alloc (.cells #[.slice Ay ny cy, .int .i64 (pd), .slice Ay' ny' cy', .int .i64 (qd)] 27)).heap.size := by simp
    generalize w5.alloc (.cells #[.slice Ay ny cy, .int .i64 (pd), .slice Ay' ny' cy', .int .i64 (qd)] 27) = w6 at *
    refine (equalDevice_same x1.out x2.out y1.out y2.out (by omega) (by omega) (by omega) (by omega)).mono ?_
    rintro e w7 ⟨rfl, hb⟩
    (try simp only [World.size_alloc, World.size_setCell, World.size_drew] at hb)
    have HB := Lib.hid hb
    clear hb
    have s7 := HB.out.size
    (try simp only [World.size_alloc, World.size_setCell, World.size_drew] at s7)
    replace d1 := Lib.hid (d1.out.below HB.out (by omega))
    replace d2 := Lib.hid (d2.out.below HB.out (by omega))
    replace Bd := Lib.hid (Bd.out.below HB.out (by omega))
    replace x1 := Lib.hid (x1.out.below HB.out (by omega))
    replace x2 := Lib.hid (x2.out.below HB.out (by omega))
    replace Bx := Lib.hid (Bx.out.below HB.out (by omega))
    replace y1 := Lib.hid (y1.out.below HB.out (by omega))
    replace y2 := Lib.hid (y2.out.below HB.out (by omega))
    replace By := Lib.hid (By.out.below HB.out (by omega))
    replace EB := Lib.hid (below_step HB.out EB.out (by omega))
    clear HB
    have hnm : nx = m := by have h1 := x1.out.len; rw [cutL_len] at h1; exact h1
    subst hnm
    have HLD := Lib.hid d1.out.len
    by_cases hlt : (nd : Int) < (nx : Int)
    · have vxl := Bx.out.lt
      have vx0 := (Bx.out.2 0 _ rfl).1
      have vx1 := (Bx.out.2 1 _ rfl).1
      have vx2 := (Bx.out.2 2 _ rfl).1
      have vx3 := (Bx.out.2 3 _ rfl).1
      have vdl := Bd.out.lt
      have vd0 := (Bd.out.2 0 _ rfl).1
      have vd1 := (Bd.out.2 1 _ rfl).1
      have vd2 := (Bd.out.2 2 _ rfl).1
      have vd3 := (Bd.out.2 3 _ rfl).1
      go_wp2_with fail
      go_loopw [10] (fun i wr => ∃ j : Nat, nd ≤ j ∧ j ≤ nx ∧ i = .int .i64 j ∧ (∃ r, wr = w7.drewN r)) (fun i _ => nx - (intOf i).toNat)
      case atStart => exact ⟨nd, Nat.le_refl _, by omega, rfl, 0, rfl⟩
      case round =>
        obtain ⟨j, hj1, hj2, rfl, r, rfl⟩ := hrel
        by_cases hjx : j < nx
        · obtain ⟨bx, ox, vv, rfl, _, hc, hx⟩ := x1.out.at_ hjx
          obtain rfl : vv = 0 := cutL_tail (by have := HLD.out; omega) hx.out
          have hj0 : (0 : Int) ≤ (j : Int) := by omega
          have hj3 : (j : Int) < (nx : Int) := by omega
          go_wp2
          exact ⟨⟨j + 1, by omega, by omega, by go_num, r, rfl⟩, by simp [intOf]; omega⟩
        · obtain rfl : nx = j := by omega
          clear vxl vx0 vx1 vx2 vx3 vdl vd0 vd1 vd2 vd3
          replace d1 := Lib.hid (d1.out.drewN r)
          replace d2 := Lib.hid (d2.out.drewN r)
          replace Bd := Lib.hid (Bd.out.drewN r)
          replace x1 := Lib.hid (x1.out.drewN r)
          replace x2 := Lib.hid (x2.out.drewN r)
          replace Bx := Lib.hid (Bx.out.drewN r)
          replace y1 := Lib.hid (y1.out.drewN r)
          replace y2 := Lib.hid (y2.out.drewN r)
          replace By := Lib.hid (By.out.drewN r)
          replace EB := Lib.hid (below_drewN EB.out r)
          have s8 : w7.heap.size ≤ (w7.drewN r).heap.size := Nat.le_refl _
          generalize w7.drewN r = w8 at *
          have CP : Hid ((Dd.take nd).isPrefixOf (cutL Dd nx) = true) := cutL_pre _ (by omega)
          have hjc : (nd : Int) ≤ (cd : Int) := by omega
          have vxl := Bx.out.lt
          have vx0 := (Bx.out.2 0 _ rfl).1
          have vx1 := (Bx.out.2 1 _ rfl).1
          have vx2 := (Bx.out.2 2 _ rfl).1
          have vx3 := (Bx.out.2 3 _ rfl).1
          have vdl := Bd.out.lt
          have vd0 := (Bd.out.2 0 _ rfl).1
          have vd1 := (Bd.out.2 1 _ rfl).1
          have vd2 := (Bd.out.2 2 _ rfl).1
          have vd3 := (Bd.out.2 3 _ rfl).1
          go_wp2_with fail
          go_region_held3 (fun w' => (w'.cell? ⟨w3.heap.size, 0, none⟩ = some (.slice Ax nx cx) ∧ w'.cell? ⟨w3.heap.size, 1, none⟩ = some (.int .i64 (pd)) ∧ w'.cell? ⟨w3.heap.size, 2, none⟩ = some (.slice Ax' nx' cx') ∧ w'.cell? ⟨w3.heap.size, 3, none⟩ = some (.int .i64 (qd))) ∧ (w'.cell? ⟨w1.heap.size, 0, none⟩ = some (.slice Ad nd cd) ∧ w'.cell? ⟨w1.heap.size, 1, none⟩ = some (.int .i64 (pd)) ∧ w'.cell? ⟨w1.heap.size, 2, none⟩ = some (.slice Ad' nd' cd') ∧ w'.cell? ⟨w1.heap.size, 3, none⟩ = some (.int .i64 (qd)))) (go_keep)
            (first | (go_at_call 25; (with_reducible refine (begins_same x1.out.drew (d1.out.drew.take (m := nd) (by first | omega | (simp; omega) | (simp; done))) hcx CP.out).mono ?_); rintro e wr0 ⟨rfl, hb⟩; (try simp only [World.size_alloc, World.size_setCell, World.size_drew] at hb); have HR0 := Lib.hid hb; have sr0 := hb.size; (try simp only [World.size_alloc, World.size_setCell, World.size_drew] at sr0); have Yx0 := Lib.hid (Bx.out.drew.below hb (by omega)); have Yd0 := Lib.hid (Bd.out.drew.below hb (by omega)); clear hb; have vx0 := (Yx0.out.2 0 _ rfl).1; have vx1 := (Yx0.out.2 1 _ rfl).1; have vx2 := (Yx0.out.2 2 _ rfl).1; have vx3 := (Yx0.out.2 3 _ rfl).1; have vd0 := (Yd0.out.2 0 _ rfl).1; have vd1 := (Yd0.out.2 1 _ rfl).1; have vd2 := (Yd0.out.2 2 _ rfl).1; have vd3 := (Yd0.out.2 3 _ rfl).1))
          go_wp2
          go_ret
          exact ⟨rfl, (below_step HR0.out EB.out.drew (by first | omega | (simp; omega) | (simp; done)))⟩
    · have vxl := Bx.out.lt
      have vx0 := (Bx.out.2 0 _ rfl).1
      have vx1 := (Bx.out.2 1 _ rfl).1
      have vx2 := (Bx.out.2 2 _ rfl).1
      have vx3 := (Bx.out.2 3 _ rfl).1
      have vdl := Bd.out.lt
      have vd0 := (Bd.out.2 0 _ rfl).1
      have vd1 := (Bd.out.2 1 _ rfl).1
      have vd2 := (Bd.out.2 2 _ rfl).1
      have vd3 := (Bd.out.2 3 _ rfl).1
      go_wp2_with fail
      go_loopw [10] (fun i wr => ∃ j : Nat, nx ≤ j ∧ j ≤ nx ∧ i = .int .i64 j ∧ (∃ r, wr = w7.drewN r)) (fun i _ => nx - (intOf i).toNat)
      case atStart => exact ⟨nx, Nat.le_refl _, by omega, rfl, 0, rfl⟩
      case round =>
        obtain ⟨j, hj1, hj2, rfl, r, rfl⟩ := hrel
        obtain rfl : nx = j := by omega
        clear vxl vx0 vx1 vx2 vx3 vdl vd0 vd1 vd2 vd3
        replace d1 := Lib.hid (d1.out.drewN r)
        replace d2 := Lib.hid (d2.out.drewN r)
        replace Bd := Lib.hid (Bd.out.drewN r)
        replace x1 := Lib.hid (x1.out.drewN r)
        replace x2 := Lib.hid (x2.out.drewN r)
        replace Bx := Lib.hid (Bx.out.drewN r)
        replace y1 := Lib.hid (y1.out.drewN r)
        replace y2 := Lib.hid (y2.out.drewN r)
        replace By := Lib.hid (By.out.drewN r)
        replace EB := Lib.hid (below_drewN EB.out r)
        have s8 : w7.heap.size ≤ (w7.drewN r).heap.size := Nat.le_refl _
        generalize w7.drewN r = w8 at *
        have CP : Hid ((Dd.take nx).isPrefixOf (cutL Dd nx) = true) := cutL_pre _ (by omega)
        have hjc : (nx : Int) ≤ (cd : Int) := by omega
        have vxl := Bx.out.lt
        have vx0 := (Bx.out.2 0 _ rfl).1
        have vx1 := (Bx.out.2 1 _ rfl).1
        have vx2 := (Bx.out.2 2 _ rfl).1
        have vx3 := (Bx.out.2 3 _ rfl).1
        have vdl := Bd.out.lt
        have vd0 := (Bd.out.2 0 _ rfl).1
        have vd1 := (Bd.out.2 1 _ rfl).1
        have vd2 := (Bd.out.2 2 _ rfl).1
        have vd3 := (Bd.out.2 3 _ rfl).1
        go_wp2_with fail
        go_region_held3 (fun w' => (w'.cell? ⟨w3.heap.size, 0, none⟩ = some (.slice Ax nx cx) ∧ w'.cell? ⟨w3.heap.size, 1, none⟩ = some (.int .i64 (pd)) ∧ w'.cell? ⟨w3.heap.size, 2, none⟩ = some (.slice Ax' nx' cx') ∧ w'.cell? ⟨w3.heap.size, 3, none⟩ = some (.int .i64 (qd))) ∧ (w'.cell? ⟨w1.heap.size, 0, none⟩ = some (.slice Ad nd cd) ∧ w'.cell? ⟨w1.heap.size, 1, none⟩ = some (.int .i64 (pd)) ∧ w'.cell? ⟨w1.heap.size, 2, none⟩ = some (.slice Ad' nd' cd') ∧ w'.cell? ⟨w1.heap.size, 3, none⟩ = some (.int .i64 (qd)))) (go_keep)
          (first | (go_at_call 25; (with_reducible refine (begins_same x1.out.drew (d1.out.drew.take (m := nx) (by first | omega | (simp; omega) | (simp; done))) hcx CP.out).mono ?_); rintro e wr0 ⟨rfl, hb⟩; (try simp only [World.size_alloc, World.size_setCell, World.size_drew] at hb); have HR0 := Lib.hid hb; have sr0 := hb.size; (try simp only [World.size_alloc, World.size_setCell, World.size_drew] at sr0); have Yx0 := Lib.hid (Bx.out.drew.below hb (by omega)); have Yd0 := Lib.hid (Bd.out.drew.below hb (by omega)); clear hb; have vx0 := (Yx0.out.2 0 _ rfl).1; have vx1 := (Yx0.out.2 1 _ rfl).1; have vx2 := (Yx0.out.2 2 _ rfl).1; have vx3 := (Yx0.out.2 3 _ rfl).1; have vd0 := (Yd0.out.2 0 _ rfl).1; have vd1 := (Yd0.out.2 1 _ rfl).1; have vd2 := (Yd0.out.2 2 _ rfl).1; have vd3 := (Yd0.out.2 3 _ rfl).1))
        go_wp2
        go_ret
        exact ⟨rfl, (below_step HR0.out EB.out.drew (by first | omega | (simp; omega) | (simp; done)))⟩

theorem contract (H : Type) (enc : TypeId × Value → H) (W : World) (base : Nat) (args : Array Value) (ds gs : List (DataW H)) (before : List MemPlace)
    (hval : ∀ (j : Nat) t v, Try.f6.params[j]? = some t → args[j]? = some v → Value.okWide Try.prog W .any base t v)
    (hW : DataW.Whole enc Try.prog Try.f6.params.toList Rows.fnCutDeviceSpec.vars false W args.toList ds gs before) :
    Calls Try.prog 6 args W fun e W' => ∃ v, e = .returned v ∧ Rows.fnCutDeviceSpec.post enc Try.prog Try.f6 false true false false W args v W' := by
  have hW' := hW
  have hlt : ∀ p ∈ before, p.block < W.heap.size := fun p hp => hW.lt p hp
  obtain ⟨p, q, hA0, hV, rfl, hfz, hnd⟩ := hW
  have hA : DataW.TrodAll enc Try.prog W 0 (fun _ => true) true Try.f6.params.toList args.toList ds p := hA0
  rw [Try.params6] at hA hval
  obtain ⟨v0, vs0, d0, ds0, p0, q0, hargs, rfl, rfl, h0, r0⟩ := trodAll_cons hA
  obtain ⟨rfl, rfl, rfl⟩ := trodAll_nil r0
  obtain rfl : args = #[v0] := by cases args; simp_all
  obtain ⟨rfl, rfl⟩ := trodVars_none hV
  obtain ⟨A, n, c, rfl, hnc, hby, hmx⟩ := arg_bytes (hval 0 _ v0 rfl rfl) h0 (fun p hp => hlt p (by simp [hp]))
  refine (walk A n c W hby hnc hmx).mono fun e W' hh => ?_
  obtain ⟨rfl, hb⟩ := hh
  exact ⟨_, rfl, law_post laidOut (tys_of (by rw [Try.params6]; kernel_rfl)) hW' rfl rfl rfl Try.underlying4 hb⟩

set_option maxRecDepth 100000 in
theorem lifted (os : Os) (started : os.Started) (H : Type) (enc : TypeId × Value → H) :
    ReturnsInHanded {} Try.checked os 6 .any (Rows.fnCutDeviceSpec.pre6 enc Try.prog Try.f6 Rows.fnCutDeviceRow.domain false) (Rows.fnCutDeviceSpec.post enc Try.prog Try.f6 false true false false) := by
  refine returnsInHanded_of_change (C := Try.checked) own started (by kernel_rfl) Try.func6
    (ChangeSpec.witness6 (C := Try.checked) false ⟨#[], #[.slice none 0 0], []⟩ 8 (by kernel_rfl) (by kernel_rfl) (by kernel_rfl) (by kernel_rfl)) ?_
  intro W base args ds gs before hval hW _ _
  exact contract H enc W base args ds gs before hval hW

theorem holds : Rows.FnCutDeviceSaid :=
  OpenClaim.holds_of_wide 6 Try.f6 rfl rfl rfl rfl rfl rfl rfl ⟨rfl, rfl, rfl, rfl, rfl⟩ rfl rfl rfl rfl rfl (by kernel_rfl) Try.func6 (by kernel_rfl)
    (of_decide_eq_true (by kernel_rfl)) (by unfold Func.isWrapper; first | (rw [if_pos (by decide +kernel)]; kernel_rfl) | (rw [if_neg (by decide +kernel)]; exact ⟨rfl, rfl⟩))
    (fun os started H enc _ => lifted os started H enc)
end LawCutDevice
end Go.Proofs.Ytbphijnhcpcclaa
