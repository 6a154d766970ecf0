/- The law of promise 07: a device at the place where it is told to be is the same, and no byte has changed. No conditions. -/
import Derived.Test.YtbphijnhcpcclaaK2
import Derived.Test.YtbphijnhcpcclaaG2
set_option maxRecDepth 10000
namespace Go.Proofs.Ytbphijnhcpcclaa
open Go.ChangeShapes Go.WideShapes Go.ChangeAt Go.RowKit
set_option linter.unusedSimpArgs false
set_option linter.unusedVariables false
namespace LawSeekDevice
theorem seek_wh {D S : List Int} {p q off wh : Int} (h : (seekOut D p S q off wh).2 = true) : wh = 0 ∨ wh = 1 ∨ wh = 2 := by
  unfold seekOut at h
  split at h
  · rename_i h1
    obtain ⟨_, h3⟩ := Bool.and_eq_true_iff.1 h1
    obtain ⟨t, ht⟩ := Option.isSome_iff_exists.1 h3
    have := (seekAt_of ht).2.1
    omega
  · cases h
set_option maxHeartbeats 8000000 in
theorem walk (A : Option Addr) (n c : Nat) (w : World) (h : BytesIn w w.heap.size A n) (hnc : n ≤ c) (hm : n ≤ 9223372036854775807) :
    Calls Try.prog 5 #[.slice A n c] w (BoolB true w) := by
  have HBY := Lib.hid h
  clear h
  have EB := Lib.hid (Below.refl w.heap.size w)
  by_cases hbig : (1048576 : Int) < (n : Int)
  · go_enter Try.func5, Try.ntmps5
    go_wp2
    go_ret
    exact ⟨rfl, Below.refl _ _⟩
  go_enter Try.func5, Try.ntmps5
  go_wp2_with fail
  refine (DrawSeekDevice_any HBY.out (by omega) hnc).mono ?_
  rintro e w1 ⟨Ad, nd, cd, Ad', nd', cd', Dd, Sd, pd, qd, zo, zw, rfl, ⟨⟨hcd, hcd'⟩, hb, hd, hd', ⟨hnd, hnd'⟩, hpd, hqd⟩, hzo, hzw⟩
  (try simp only [World.size_alloc, World.size_setCell, World.size_drew] at hb)
  have HB := Lib.hid hb
  clear hb
  have s1 := HB.out.size
  (try simp only [World.size_alloc, World.size_setCell, World.size_drew] at s1)
  replace EB := Lib.hid (below_step HB.out EB.out (by omega))
  clear HB
  have d1 := Lib.hid hd
  have d2 := Lib.hid hd'
  clear hd hd' HBY
  go_wp2_with fail
  replace d1 := Lib.hid (d1.out.alloc (by omega) (.cells #[.slice Ad nd cd, .int .i64 (pd), .slice Ad' nd' cd', .int .i64 (qd)] 27))
  replace d2 := Lib.hid (d2.out.alloc (by omega) (.cells #[.slice Ad nd cd, .int .i64 (pd), .slice Ad' nd' cd', .int .i64 (qd)] 27))
  replace EB := Lib.hid (EB.out.alloc (by omega) (.cells #[.slice Ad nd cd, .int .i64 (pd), .slice Ad' nd' cd', .int .i64 (qd)] 27))
  have Bd := Lib.hid (Box.new w1 27 [.slice Ad nd cd, .int .i64 (pd), .slice Ad' nd' cd', .int .i64 (qd)])
  have s2 : w1.heap.size + 1 ≤ (w1.alloc (.cells #[.slice Ad nd cd, .int .i64 (pd), .slice Ad' nd' cd', .int .i64 (qd)] 27)).heap.size := by simp
  generalize w1.alloc (.cells #[.slice Ad nd cd, .int .i64 (pd), .slice Ad' nd' cd', .int .i64 (qd)] 27) = w2 at *
  cases hok : (seekOut Dd pd Sd qd zo zw).2
  · refine (to_db (SeekDevice_x d1.out d2.out (by omega) (by omega) hcd hcd' (by omega) (by omega) (by unfold okInt; omega) (by unfold okInt; omega)) (seek_no hok)).mono ?_
    rintro e w3 ⟨Ax, nx, cx, Ax', nx', cx', rfl, ⟨hcx, hcx'⟩, hb, ⟨hd, hd', _, _, _⟩⟩
    (try simp only [World.size_alloc, World.size_setCell, World.size_drew] at hb)
    have HB := Lib.hid hb
    clear hb
    have s3 := HB.out.size
    (try simp only [World.size_alloc, World.size_setCell, World.size_drew] at s3)
    replace d1 := Lib.hid (d1.out.below HB.out (by omega))
    replace d2 := Lib.hid (d2.out.below HB.out (by omega))
    replace Bd := Lib.hid (Bd.out.below HB.out (by omega))
    replace EB := Lib.hid (below_step HB.out EB.out (by omega))
    clear HB
    have x1 := Lib.hid hd
    have x2 := Lib.hid hd'
    clear hd hd'
    have hnx : nx ≤ 1048576 := by have h1 := x1.out.len; have h2 := d1.out.len; (try simp only [List.length_nil, cutL_len] at h1); omega
    have hnx' : nx' ≤ 1048576 := by have h1 := x2.out.len; have h2 := d2.out.len; (try simp only [List.length_nil] at h1); omega
    have vdl := Bd.out.lt
    have vd0 := (Bd.out.2 0 _ rfl).1
    have vd1 := (Bd.out.2 1 _ rfl).1
    have vd2 := (Bd.out.2 2 _ rfl).1
    have vd3 := (Bd.out.2 3 _ rfl).1
    go_wp2_with fail
    clear vdl vd0 vd1 vd2 vd3
    replace d1 := Lib.hid (d1.out.alloc (by omega) (.cells #[.slice Ax nx cx, .int .i64 (0), .slice Ax' nx' cx', .int .i64 (0)] 27))
    replace d2 := Lib.hid (d2.out.alloc (by omega) (.cells #[.slice Ax nx cx, .int .i64 (0), .slice Ax' nx' cx', .int .i64 (0)] 27))
    replace Bd := Lib.hid (Bd.out.alloc (.cells #[.slice Ax nx cx, .int .i64 (0), .slice Ax' nx' cx', .int .i64 (0)] 27))
    replace x1 := Lib.hid (x1.out.alloc (by omega) (.cells #[.slice Ax nx cx, .int .i64 (0), .slice Ax' nx' cx', .int .i64 (0)] 27))
    replace x2 := Lib.hid (x2.out.alloc (by omega) (.cells #[.slice Ax nx cx, .int .i64 (0), .slice Ax' nx' cx', .int .i64 (0)] 27))
    replace EB := Lib.hid (EB.out.alloc (by omega) (.cells #[.slice Ax nx cx, .int .i64 (0), .slice Ax' nx' cx', .int .i64 (0)] 27))
    have Bx := Lib.hid (Box.new w3 27 [.slice Ax nx cx, .int .i64 (0), .slice Ax' nx' cx', .int .i64 (0)])
    have s4 : w3.heap.size + 1 ≤ (w3.alloc (.cells #[.slice Ax nx cx, .int .i64 (0), .slice Ax' nx' cx', .int .i64 (0)] 27)).heap.size := by simp
    generalize w3.alloc (.cells #[.slice Ax nx cx, .int .i64 (0), .slice Ax' nx' cx', .int .i64 (0)] 27) = w4 at *
    refine (to_db (SSeekDevice_x d1.out d2.out (by omega) (by omega) hcd hcd' (by omega) (by omega) (by unfold okInt; omega) (by unfold okInt; omega)) (seek_no hok)).mono ?_
    rintro e w5 ⟨Ay, ny, cy, Ay', ny', cy', rfl, ⟨hcy, hcy'⟩, hb, ⟨hd, hd', _, _, _⟩⟩
    (try simp only [World.size_alloc, World.size_setCell, World.size_drew] at hb)
    have HB := Lib.hid hb
    clear hb
    have s5 := HB.out.size
    (try simp only [World.size_alloc, World.size_setCell, World.size_drew] at s5)
    replace d1 := Lib.hid (d1.out.below HB.out (by omega))
    replace d2 := Lib.hid (d2.out.below HB.out (by omega))
    replace Bd := Lib.hid (Bd.out.below HB.out (by omega))
    replace x1 := Lib.hid (x1.out.below HB.out (by omega))
    replace x2 := Lib.hid (x2.out.below HB.out (by omega))
    replace Bx := Lib.hid (Bx.out.below HB.out (by omega))
    replace EB := Lib.hid (below_step HB.out EB.out (by omega))
    clear HB
    have y1 := Lib.hid hd
    have y2 := Lib.hid hd'
    clear hd hd'
    have hny : ny ≤ 1048576 := by have h1 := y1.out.len; have h2 := d1.out.len; (try simp only [List.length_nil, cutL_len] at h1); omega
    have hny' : ny' ≤ 1048576 := by have h1 := y2.out.len; have h2 := d2.out.len; (try simp only [List.length_nil] at h1); omega
    have vxl := Bx.out.lt
    have vx0 := (Bx.out.2 0 _ rfl).1
    have vx1 := (Bx.out.2 1 _ rfl).1
    have vx2 := (Bx.out.2 2 _ rfl).1
    have vx3 := (Bx.out.2 3 _ rfl).1
    go_wp2_with fail
    clear vxl vx0 vx1 vx2 vx3
    replace d1 := Lib.hid (d1.out.alloc (by omega) (.cells #[.slice Ay ny cy, .int .i64 (0), .slice Ay' ny' cy', .int .i64 (0)] 27))
    replace d2 := Lib.hid (d2.out.alloc (by omega) (.cells #[.slice Ay ny cy, .int .i64 (0), .slice Ay' ny' cy', .int .i64 (0)] 27))
    replace Bd := Lib.hid (Bd.out.alloc (.cells #[.slice Ay ny cy, .int .i64 (0), .slice Ay' ny' cy', .int .i64 (0)] 27))
    replace x1 := Lib.hid (x1.out.alloc (by omega) (.cells #[.slice Ay ny cy, .int .i64 (0), .slice Ay' ny' cy', .int .i64 (0)] 27))
    replace x2 := Lib.hid (x2.out.alloc (by omega) (.cells #[.slice Ay ny cy, .int .i64 (0), .slice Ay' ny' cy', .int .i64 (0)] 27))
    replace Bx := Lib.hid (Bx.out.alloc (.cells #[.slice Ay ny cy, .int .i64 (0), .slice Ay' ny' cy', .int .i64 (0)] 27))
    replace y1 := Lib.hid (y1.out.alloc (by omega) (.cells #[.slice Ay ny cy, .int .i64 (0), .slice Ay' ny' cy', .int .i64 (0)] 27))
    replace y2 := Lib.hid (y2.out.alloc (by omega) (.cells #[.slice Ay ny cy, .int .i64 (0), .slice Ay' ny' cy', .int .i64 (0)] 27))
    replace EB := Lib.hid (EB.out.alloc (by omega) (.cells #[.slice Ay ny cy, .int .i64 (0), .slice Ay' ny' cy', .int .i64 (0)] 27))
    have By := Lib.hid (Box.new w5 27 [.slice Ay ny cy, .int .i64 (0), .slice Ay' ny' cy', .int .i64 (0)])
    have s6 : w5.heap.size + 1 ≤ (w5.alloc (.cells #[.slice Ay ny cy, .int .i64 (0), .slice Ay' ny' cy', .int .i64 (0)] 27)).heap.size := by simp
    generalize w5.alloc (.cells #[.slice Ay ny cy, .int .i64 (0), .slice Ay' ny' cy', .int .i64 (0)] 27) = w6 at *
    refine (equalDevice_same x1.out x2.out y1.out y2.out (by omega) (by omega) (by omega) (by omega)).mono ?_
    rintro e w7 ⟨rfl, hb⟩
    (try simp only [World.size_alloc, World.size_setCell, World.size_drew] at hb)
    have HB := Lib.hid hb
    clear hb
    have s7 := HB.out.size
    (try simp only [World.size_alloc, World.size_setCell, World.size_drew] at s7)
    replace d1 := Lib.hid (d1.out.below HB.out (by omega))
    replace d2 := Lib.hid (d2.out.below HB.out (by omega))
    replace Bd := Lib.hid (Bd.out.below HB.out (by omega))
    replace x1 := Lib.hid (x1.out.below HB.out (by omega))
    replace x2 := Lib.hid (x2.out.below HB.out (by omega))
    replace Bx := Lib.hid (Bx.out.below HB.out (by omega))
    replace y1 := Lib.hid (y1.out.below HB.out (by omega))
    replace y2 := Lib.hid (y2.out.below HB.out (by omega))
    replace By := Lib.hid (By.out.below HB.out (by omega))
    replace EB := Lib.hid (below_step HB.out EB.out (by omega))
    clear HB
    have vxl := Bx.out.lt
    have vx0 := (Bx.out.2 0 _ rfl).1
    have vx1 := (Bx.out.2 1 _ rfl).1
    have vx2 := (Bx.out.2 2 _ rfl).1
    have vx3 := (Bx.out.2 3 _ rfl).1
    have vyl := By.out.lt
    have vy0 := (By.out.2 0 _ rfl).1
    have vy1 := (By.out.2 1 _ rfl).1
    have vy2 := (By.out.2 2 _ rfl).1
    have vy3 := (By.out.2 3 _ rfl).1
    go_wp2_with fail
    refine (equalDevice_same x1.out x2.out y1.out y2.out (by omega) (by omega) (by omega) (by omega)).mono ?_
    clear vxl vx0 vx1 vx2 vx3 vyl vy0 vy1 vy2 vy3
    rintro e w8 ⟨rfl, hb⟩
    (try simp only [World.size_alloc, World.size_setCell, World.size_drew] at hb)
    have HB := Lib.hid hb
    clear hb
    have s8 := HB.out.size
    (try simp only [World.size_alloc, World.size_setCell, World.size_drew] at s8)
    replace d1 := Lib.hid (d1.out.below HB.out (by omega))
    replace d2 := Lib.hid (d2.out.below HB.out (by omega))
    replace Bd := Lib.hid (Bd.out.below HB.out (by omega))
    replace x1 := Lib.hid (x1.out.below HB.out (by omega))
    replace x2 := Lib.hid (x2.out.below HB.out (by omega))
    replace Bx := Lib.hid (Bx.out.below HB.out (by omega))
    replace y1 := Lib.hid (y1.out.below HB.out (by omega))
    replace y2 := Lib.hid (y2.out.below HB.out (by omega))
    replace By := Lib.hid (By.out.below HB.out (by omega))
    replace EB := Lib.hid (below_step HB.out EB.out (by omega))
    clear HB
    go_wp2
    go_ret
    exact ⟨rfl, EB.out⟩
  · obtain ⟨t, ho, hv, ht, hte⟩ := seek_yes hok
    have HTE := Lib.hid hte
    have HOK := Lib.hid hok
    clear hte hok
    refine (to_db (SeekDevice_x d1.out d2.out (by omega) (by omega) hcd hcd' (by omega) (by omega) (by unfold okInt; omega) (by unfold okInt; omega)) ho).mono ?_
    rintro e w3 ⟨Ax, nx, cx, Ax', nx', cx', rfl, ⟨hcx, hcx'⟩, hb, ⟨hd, hd', _, _, _⟩⟩
    (try simp only [World.size_alloc, World.size_setCell, World.size_drew] at hb)
    have HB := Lib.hid hb
    clear hb
    have s3 := HB.out.size
    (try simp only [World.size_alloc, World.size_setCell, World.size_drew] at s3)
    replace d1 := Lib.hid (d1.out.below HB.out (by omega))
    replace d2 := Lib.hid (d2.out.below HB.out (by omega))
    replace Bd := Lib.hid (Bd.out.below HB.out (by omega))
    replace EB := Lib.hid (below_step HB.out EB.out (by omega))
    clear HB
    have x1 := Lib.hid hd
    have x2 := Lib.hid hd'
    clear hd hd'
    have hnx : nx ≤ 1048576 := by have h1 := x1.out.len; have h2 := d1.out.len; (try simp only [List.length_nil, cutL_len] at h1); omega
    have hnx' : nx' ≤ 1048576 := by have h1 := x2.out.len; have h2 := d2.out.len; (try simp only [List.length_nil] at h1); omega
    have vdl := Bd.out.lt
    have vd0 := (Bd.out.2 0 _ rfl).1
    have vd1 := (Bd.out.2 1 _ rfl).1
    have vd2 := (Bd.out.2 2 _ rfl).1
    have vd3 := (Bd.out.2 3 _ rfl).1
    go_wp2_with fail
    clear vdl vd0 vd1 vd2 vd3
    replace d1 := Lib.hid (d1.out.alloc (by omega) (.cells #[.slice Ax nx cx, .int .i64 (t), .slice Ax' nx' cx', .int .i64 (qd)] 27))
    replace d2 := Lib.hid (d2.out.alloc (by omega) (.cells #[.slice Ax nx cx, .int .i64 (t), .slice Ax' nx' cx', .int .i64 (qd)] 27))
    replace Bd := Lib.hid (Bd.out.alloc (.cells #[.slice Ax nx cx, .int .i64 (t), .slice Ax' nx' cx', .int .i64 (qd)] 27))
    replace x1 := Lib.hid (x1.out.alloc (by omega) (.cells #[.slice Ax nx cx, .int .i64 (t), .slice Ax' nx' cx', .int .i64 (qd)] 27))
    replace x2 := Lib.hid (x2.out.alloc (by omega) (.cells #[.slice Ax nx cx, .int .i64 (t), .slice Ax' nx' cx', .int .i64 (qd)] 27))
    replace EB := Lib.hid (EB.out.alloc (by omega) (.cells #[.slice Ax nx cx, .int .i64 (t), .slice Ax' nx' cx', .int .i64 (qd)] 27))
    have Bx := Lib.hid (Box.new w3 27 [.slice Ax nx cx, .int .i64 (t), .slice Ax' nx' cx', .int .i64 (qd)])
    have s4 : w3.heap.size + 1 ≤ (w3.alloc (.cells #[.slice Ax nx cx, .int .i64 (t), .slice Ax' nx' cx', .int .i64 (qd)] 27)).heap.size := by simp
    generalize w3.alloc (.cells #[.slice Ax nx cx, .int .i64 (t), .slice Ax' nx' cx', .int .i64 (qd)] 27) = w4 at *
    refine (to_db (SSeekDevice_x d1.out d2.out (by omega) (by omega) hcd hcd' (by omega) (by omega) (by unfold okInt; omega) (by unfold okInt; omega)) ho).mono ?_
    rintro e w5 ⟨Ay, ny, cy, Ay', ny', cy', rfl, ⟨hcy, hcy'⟩, hb, ⟨hd, hd', _, _, _⟩⟩
    (try simp only [World.size_alloc, World.size_setCell, World.size_drew] at hb)
    have HB := Lib.hid hb
    clear hb
    have s5 := HB.out.size
    (try simp only [World.size_alloc, World.size_setCell, World.size_drew] at s5)
    replace d1 := Lib.hid (d1.out.below HB.out (by omega))
    replace d2 := Lib.hid (d2.out.below HB.out (by omega))
    replace Bd := Lib.hid (Bd.out.below HB.out (by omega))
    replace x1 := Lib.hid (x1.out.below HB.out (by omega))
    replace x2 := Lib.hid (x2.out.below HB.out (by omega))
    replace Bx := Lib.hid (Bx.out.below HB.out (by omega))
    replace EB := Lib.hid (below_step HB.out EB.out (by omega))
    clear HB
    have y1 := Lib.hid hd
    have y2 := Lib.hid hd'
    clear hd hd'
    have hny : ny ≤ 1048576 := by have h1 := y1.out.len; have h2 := d1.out.len; (try simp only [List.length_nil, cutL_len] at h1); omega
    have hny' : ny' ≤ 1048576 := by have h1 := y2.out.len; have h2 := d2.out.len; (try simp only [List.length_nil] at h1); omega
    have vxl := Bx.out.lt
    have vx0 := (Bx.out.2 0 _ rfl).1
    have vx1 := (Bx.out.2 1 _ rfl).1
    have vx2 := (Bx.out.2 2 _ rfl).1
    have vx3 := (Bx.out.2 3 _ rfl).1
    go_wp2_with fail
    clear vxl vx0 vx1 vx2 vx3
    replace d1 := Lib.hid (d1.out.alloc (by omega) (.cells #[.slice Ay ny cy, .int .i64 (t), .slice Ay' ny' cy', .int .i64 (qd)] 27))
    replace d2 := Lib.hid (d2.out.alloc (by omega) (.cells #[.slice Ay ny cy, .int .i64 (t), .slice Ay' ny' cy', .int .i64 (qd)] 27))
    replace Bd := Lib.hid (Bd.out.alloc (.cells #[.slice Ay ny cy, .int .i64 (t), .slice Ay' ny' cy', .int .i64 (qd)] 27))
    replace x1 := Lib.hid (x1.out.alloc (by omega) (.cells #[.slice Ay ny cy, .int .i64 (t), .slice Ay' ny' cy', .int .i64 (qd)] 27))
    replace x2 := Lib.hid (x2.out.alloc (by omega) (.cells #[.slice Ay ny cy, .int .i64 (t), .slice Ay' ny' cy', .int .i64 (qd)] 27))
    replace Bx := Lib.hid (Bx.out.alloc (.cells #[.slice Ay ny cy, .int .i64 (t), .slice Ay' ny' cy', .int .i64 (qd)] 27))
    replace y1 := Lib.hid (y1.out.alloc (by omega) (.cells #[.slice Ay ny cy, .int .i64 (t), .slice Ay' ny' cy', .int .i64 (qd)] 27))
    replace y2 := Lib.hid (y2.out.alloc (by omega) (.cells #[.slice Ay ny cy, .int .i64 (t), .slice Ay' ny' cy', .int .i64 (qd)] 27))
    replace EB := Lib.hid (EB.out.alloc (by omega) (.cells #[.slice Ay ny cy, .int .i64 (t), .slice Ay' ny' cy', .int .i64 (qd)] 27))
    have By := Lib.hid (Box.new w5 27 [.slice Ay ny cy, .int .i64 (t), .slice Ay' ny' cy', .int .i64 (qd)])
    have s6 : w5.heap.size + 1 ≤ (w5.alloc (.cells #[.slice Ay ny cy, .int .i64 (t), .slice Ay' ny' cy', .int .i64 (qd)] 27)).heap.size := by simp
    generalize w5.alloc (.cells #[.slice Ay ny cy, .int .i64 (t), .slice Ay' ny' cy', .int .i64 (qd)] 27) = w6 at *
    refine (equalDevice_same x1.out x2.out y1.out y2.out (by omega) (by omega) (by omega) (by omega)).mono ?_
    rintro e w7 ⟨rfl, hb⟩
    (try simp only [World.size_alloc, World.size_setCell, World.size_drew] at hb)
    have HB := Lib.hid hb
    clear hb
    have s7 := HB.out.size
    (try simp only [World.size_alloc, World.size_setCell, World.size_drew] at s7)
    replace d1 := Lib.hid (d1.out.below HB.out (by omega))
    replace d2 := Lib.hid (d2.out.below HB.out (by omega))
    replace Bd := Lib.hid (Bd.out.below HB.out (by omega))
    replace x1 := Lib.hid (x1.out.below HB.out (by omega))
    replace x2 := Lib.hid (x2.out.below HB.out (by omega))
    replace Bx := Lib.hid (Bx.out.below HB.out (by omega))
    replace y1 := Lib.hid (y1.out.below HB.out (by omega))
    replace y2 := Lib.hid (y2.out.below HB.out (by omega))
    replace By := Lib.hid (By.out.below HB.out (by omega))
    replace EB := Lib.hid (below_step HB.out EB.out (by omega))
    clear HB
    clear y1 y2 By
    have vdl := Bd.out.lt
    have vd0 := (Bd.out.2 0 _ rfl).1
    have vd1 := (Bd.out.2 1 _ rfl).1
    have vd2 := (Bd.out.2 2 _ rfl).1
    have vd3 := (Bd.out.2 3 _ rfl).1
    have vxl := Bx.out.lt
    have vx0 := (Bx.out.2 0 _ rfl).1
    have vx1 := (Bx.out.2 1 _ rfl).1
    have vx2 := (Bx.out.2 2 _ rfl).1
    have vx3 := (Bx.out.2 3 _ rfl).1
    go_wp2_with fail
    refine (to_db (SeekDevice_x d1.out d2.out (by omega) (by omega) hcd hcd' (by omega) (by omega) (by unfold okInt; omega) (by unfold okInt; omega)) (seek_start hv ht.1 ht.2)).mono ?_
    clear vdl vd0 vd1 vd2 vd3 vxl vx0 vx1 vx2 vx3
    rintro e w8 ⟨Aa, na, ca, Aa', na', ca', rfl, ⟨hca, hca'⟩, hb, ⟨hd, hd', _, _, _⟩⟩
    (try simp only [World.size_alloc, World.size_setCell, World.size_drew] at hb)
    have HB := Lib.hid hb
    clear hb
    have s8 := HB.out.size
    (try simp only [World.size_alloc, World.size_setCell, World.size_drew] at s8)
    replace d1 := Lib.hid (d1.out.below HB.out (by omega))
    replace d2 := Lib.hid (d2.out.below HB.out (by omega))
    replace Bd := Lib.hid (Bd.out.below HB.out (by omega))
    replace x1 := Lib.hid (x1.out.below HB.out (by omega))
    replace x2 := Lib.hid (x2.out.below HB.out (by omega))
    replace Bx := Lib.hid (Bx.out.below HB.out (by omega))
    replace EB := Lib.hid (below_step HB.out EB.out (by omega))
    clear HB
    have a1 := Lib.hid hd
    have a2 := Lib.hid hd'
    clear hd hd'
    have hna : na ≤ 1048576 := by have h1 := a1.out.len; have h2 := d1.out.len; (try simp only [List.length_nil, cutL_len] at h1); omega
    have hna' : na' ≤ 1048576 := by have h1 := a2.out.len; have h2 := d2.out.len; (try simp only [List.length_nil] at h1); omega
    have vxl := Bx.out.lt
    have vx0 := (Bx.out.2 0 _ rfl).1
    have vx1 := (Bx.out.2 1 _ rfl).1
    have vx2 := (Bx.out.2 2 _ rfl).1
    have vx3 := (Bx.out.2 3 _ rfl).1
    go_wp2_with fail
    clear vxl vx0 vx1 vx2 vx3
    replace d1 := Lib.hid (d1.out.alloc (by omega) (.cells #[.slice Aa na ca, .int .i64 (t), .slice Aa' na' ca', .int .i64 (qd)] 27))
    replace d2 := Lib.hid (d2.out.alloc (by omega) (.cells #[.slice Aa na ca, .int .i64 (t), .slice Aa' na' ca', .int .i64 (qd)] 27))
    replace Bd := Lib.hid (Bd.out.alloc (.cells #[.slice Aa na ca, .int .i64 (t), .slice Aa' na' ca', .int .i64 (qd)] 27))
    replace x1 := Lib.hid (x1.out.alloc (by omega) (.cells #[.slice Aa na ca, .int .i64 (t), .slice Aa' na' ca', .int .i64 (qd)] 27))
    replace x2 := Lib.hid (x2.out.alloc (by omega) (.cells #[.slice Aa na ca, .int .i64 (t), .slice Aa' na' ca', .int .i64 (qd)] 27))
    replace Bx := Lib.hid (Bx.out.alloc (.cells #[.slice Aa na ca, .int .i64 (t), .slice Aa' na' ca', .int .i64 (qd)] 27))
    replace a1 := Lib.hid (a1.out.alloc (by omega) (.cells #[.slice Aa na ca, .int .i64 (t), .slice Aa' na' ca', .int .i64 (qd)] 27))
    replace a2 := Lib.hid (a2.out.alloc (by omega) (.cells #[.slice Aa na ca, .int .i64 (t), .slice Aa' na' ca', .int .i64 (qd)] 27))
    replace EB := Lib.hid (EB.out.alloc (by omega) (.cells #[.slice Aa na ca, .int .i64 (t), .slice Aa' na' ca', .int .i64 (qd)] 27))
    have Ba := Lib.hid (Box.new w8 27 [.slice Aa na ca, .int .i64 (t), .slice Aa' na' ca', .int .i64 (qd)])
    have s9 : w8.heap.size + 1 ≤ (w8.alloc (.cells #[.slice Aa na ca, .int .i64 (t), .slice Aa' na' ca', .int .i64 (qd)] 27)).heap.size := by simp
    generalize w8.alloc (.cells #[.slice Aa na ca, .int .i64 (t), .slice Aa' na' ca', .int .i64 (qd)] 27) = w9 at *
    refine (equalDevice_same a1.out a2.out x1.out x2.out (by omega) (by omega) (by omega) (by omega)).mono ?_
    rintro e w10 ⟨rfl, hb⟩
    (try simp only [World.size_alloc, World.size_setCell, World.size_drew] at hb)
    have HB := Lib.hid hb
    clear hb
    have s10 := HB.out.size
    (try simp only [World.size_alloc, World.size_setCell, World.size_drew] at s10)
    replace d1 := Lib.hid (d1.out.below HB.out (by omega))
    replace d2 := Lib.hid (d2.out.below HB.out (by omega))
    replace Bd := Lib.hid (Bd.out.below HB.out (by omega))
    replace x1 := Lib.hid (x1.out.below HB.out (by omega))
    replace x2 := Lib.hid (x2.out.below HB.out (by omega))
    replace Bx := Lib.hid (Bx.out.below HB.out (by omega))
    replace a1 := Lib.hid (a1.out.below HB.out (by omega))
    replace a2 := Lib.hid (a2.out.below HB.out (by omega))
    replace Ba := Lib.hid (Ba.out.below HB.out (by omega))
    replace EB := Lib.hid (below_step HB.out EB.out (by omega))
    clear HB
    have vxl := Bx.out.lt
    have vx0 := (Bx.out.2 0 _ rfl).1
    have vx1 := (Bx.out.2 1 _ rfl).1
    have vx2 := (Bx.out.2 2 _ rfl).1
    have vx3 := (Bx.out.2 3 _ rfl).1
    have vdl := Bd.out.lt
    have vd0 := (Bd.out.2 0 _ rfl).1
    have vd1 := (Bd.out.2 1 _ rfl).1
    have vd2 := (Bd.out.2 2 _ rfl).1
    have vd3 := (Bd.out.2 3 _ rfl).1
    go_wp2_with fail
    refine (equalInts_same x1.out d1.out rfl).mono ?_
    clear vxl vx0 vx1 vx2 vx3 vdl vd0 vd1 vd2 vd3
    rintro e w11 ⟨rfl, hb⟩
    (try simp only [World.size_alloc, World.size_setCell, World.size_drew] at hb)
    have HB := Lib.hid hb
    clear hb
    have s11 := HB.out.size
    (try simp only [World.size_alloc, World.size_setCell, World.size_drew] at s11)
    replace d1 := Lib.hid (d1.out.below HB.out (by omega))
    replace d2 := Lib.hid (d2.out.below HB.out (by omega))
    replace Bd := Lib.hid (Bd.out.below HB.out (by omega))
    replace x1 := Lib.hid (x1.out.below HB.out (by omega))
    replace x2 := Lib.hid (x2.out.below HB.out (by omega))
    replace Bx := Lib.hid (Bx.out.below HB.out (by omega))
    replace a1 := Lib.hid (a1.out.below HB.out (by omega))
    replace a2 := Lib.hid (a2.out.below HB.out (by omega))
    replace Ba := Lib.hid (Ba.out.below HB.out (by omega))
    replace EB := Lib.hid (below_step HB.out EB.out (by omega))
    clear HB
    have hwo : IntKind.i64.wrap (pd + zo) = pd + zo := IntWalk.i64_in _ (by omega)
    have hwn : IntKind.i64.wrap ((nd : Int) + zo) = (nd : Int) + zo := IntWalk.i64_in _ (by omega)
    have vxl := Bx.out.lt
    have vx0 := (Bx.out.2 0 _ rfl).1
    have vx1 := (Bx.out.2 1 _ rfl).1
    have vx2 := (Bx.out.2 2 _ rfl).1
    have vx3 := (Bx.out.2 3 _ rfl).1
    have vdl := Bd.out.lt
    have vd0 := (Bd.out.2 0 _ rfl).1
    have vd1 := (Bd.out.2 1 _ rfl).1
    have vd2 := (Bd.out.2 2 _ rfl).1
    have vd3 := (Bd.out.2 3 _ rfl).1
    have HLD := d1.out.len
    have hte := HTE.out
    clear HTE
    rcases seek_wh HOK.out with rfl | rfl | rfl
    · obtain rfl : t = zo := hte
      (try clear hte)
      (try clear HLD)
      go_wp2
      go_ret
      exact ⟨rfl, EB.out⟩
    · obtain rfl : t = pd + zo := hte
      (try clear hte)
      (try clear HLD)
      go_wp2
      go_ret
      exact ⟨rfl, EB.out⟩
    · obtain rfl : t = (nd : Int) + zo := by rw [HLD]; exact hte
      (try clear hte)
      (try clear HLD)
      go_wp2
      go_ret
      exact ⟨rfl, EB.out⟩

theorem contract (H : Type) (enc : TypeId × Value → H) (W : World) (base : Nat) (args : Array Value) (ds gs : List (DataW H)) (before : List MemPlace)
    (hval : ∀ (j : Nat) t v, Try.f5.params[j]? = some t → args[j]? = some v → Value.okWide Try.prog W .any base t v)
    (hW : DataW.Whole enc Try.prog Try.f5.params.toList Rows.fnSeekDeviceSpec.vars false W args.toList ds gs before) :
    Calls Try.prog 5 args W fun e W' => ∃ v, e = .returned v ∧ Rows.fnSeekDeviceSpec.post enc Try.prog Try.f5 false true false false W args v W' := by
  have hW' := hW
  have hlt : ∀ p ∈ before, p.block < W.heap.size := fun p hp => hW.lt p hp
  obtain ⟨p, q, hA0, hV, rfl, hfz, hnd⟩ := hW
  have hA : DataW.TrodAll enc Try.prog W 0 (fun _ => true) true Try.f5.params.toList args.toList ds p := hA0
  rw [Try.params5] at hA hval
  obtain ⟨v0, vs0, d0, ds0, p0, q0, hargs, rfl, rfl, h0, r0⟩ := trodAll_cons hA
  obtain ⟨rfl, rfl, rfl⟩ := trodAll_nil r0
  obtain rfl : args = #[v0] := by cases args; simp_all
  obtain ⟨rfl, rfl⟩ := trodVars_none hV
  obtain ⟨A, n, c, rfl, hnc, hby, hmx⟩ := arg_bytes (hval 0 _ v0 rfl rfl) h0 (fun p hp => hlt p (by simp [hp]))
  refine (walk A n c W hby hnc hmx).mono fun e W' hh => ?_
  obtain ⟨rfl, hb⟩ := hh
  exact ⟨_, rfl, law_post laidOut (tys_of (by rw [Try.params5]; kernel_rfl)) hW' rfl rfl rfl Try.underlying4 hb⟩

set_option maxRecDepth 100000 in
theorem lifted (os : Os) (started : os.Started) (H : Type) (enc : TypeId × Value → H) :
    ReturnsInHanded {} Try.checked os 5 .any (Rows.fnSeekDeviceSpec.pre6 enc Try.prog Try.f5 Rows.fnSeekDeviceRow.domain false) (Rows.fnSeekDeviceSpec.post enc Try.prog Try.f5 false true false false) := by
  refine returnsInHanded_of_change (C := Try.checked) own started (by kernel_rfl) Try.func5
    (ChangeSpec.witness6 (C := Try.checked) false ⟨#[], #[.slice none 0 0], []⟩ 8 (by kernel_rfl) (by kernel_rfl) (by kernel_rfl) (by kernel_rfl)) ?_
  intro W base args ds gs before hval hW _ _
  exact contract H enc W base args ds gs before hval hW

theorem holds : Rows.FnSeekDeviceSaid :=
  OpenClaim.holds_of_wide 5 Try.f5 rfl rfl rfl rfl rfl rfl rfl ⟨rfl, rfl, rfl, rfl, rfl⟩ rfl rfl rfl rfl rfl (by kernel_rfl) Try.func5 (by kernel_rfl)
    (of_decide_eq_true (by kernel_rfl)) (by unfold Func.isWrapper; first | (rw [if_pos (by decide +kernel)]; kernel_rfl) | (rw [if_neg (by decide +kernel)]; exact ⟨rfl, rfl⟩))
    (fun os started H enc _ => lifted os started H enc)
end LawSeekDevice
end Go.Proofs.Ytbphijnhcpcclaa
