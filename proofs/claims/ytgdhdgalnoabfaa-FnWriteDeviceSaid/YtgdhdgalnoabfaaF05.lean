/- The law of promise 05: what was written is there, and what was ahead of it is as before. No conditions. -/
import Derived.Test.YtgdhdgalnoabfaaK2
import Derived.Test.YtgdhdgalnoabfaaG3
set_option maxRecDepth 10000
namespace Go.Proofs.Ytgdhdgalnoabfaa
open Go.ChangeShapes Go.WideShapes Go.ChangeAt Go.RowKit
set_option linter.unusedSimpArgs false
set_option linter.unusedVariables false
namespace LawWriteDevice
set_option maxHeartbeats 8000000 in
theorem walk (A : Option Addr) (n c : Nat) (w : World) (h : BytesIn w w.heap.size A n) (hnc : n ≤ c) (hm : n ≤ 9223372036854775807) :
    Calls Try.prog 3 #[.slice A n c] w (BoolB true w) := by
  have HBY := Lib.hid h
  clear h
  have EB := Lib.hid (Below.refl w.heap.size w)
  by_cases hbig : (1048576 : Int) < (n : Int)
  · go_enter Try.func3, Try.ntmps3
    go_wp2
    go_ret
    exact ⟨rfl, Below.refl _ _⟩
  go_enter Try.func3, Try.ntmps3
  go_wp2_with fail
  refine (DrawWriteDevice_any HBY.out (by omega) hnc).mono ?_
  rintro e w1 ⟨Ad, nd, cd, Ad', nd', cd', Dd, Sd, pd, qd, Al, nl, cl, Ll, rfl, ⟨⟨hcd, hcd'⟩, hb, hd, hd', ⟨hnd, hnd'⟩, hpd, hqd⟩, hcl, hl, hnl⟩
  (try simp only [World.size_alloc, World.size_setCell, World.size_drew] at hb)
  have HB := Lib.hid hb
  clear hb
  have s1 := HB.out.size
  (try simp only [World.size_alloc, World.size_setCell, World.size_drew] at s1)
  replace EB := Lib.hid (below_step HB.out EB.out (by omega))
  clear HB
  have l1 := Lib.hid hl
  clear hl
  have d1 := Lib.hid hd
  have d2 := Lib.hid hd'
  clear hd hd' HBY
  go_wp2_with fail
  replace l1 := Lib.hid (l1.out.alloc (by omega) (.cells #[.slice Ad nd cd, .int .i64 (pd), .slice Ad' nd' cd', .int .i64 (qd)] 25))
  replace d1 := Lib.hid (d1.out.alloc (by omega) (.cells #[.slice Ad nd cd, .int .i64 (pd), .slice Ad' nd' cd', .int .i64 (qd)] 25))
  replace d2 := Lib.hid (d2.out.alloc (by omega) (.cells #[.slice Ad nd cd, .int .i64 (pd), .slice Ad' nd' cd', .int .i64 (qd)] 25))
  replace EB := Lib.hid (EB.out.alloc (by omega) (.cells #[.slice Ad nd cd, .int .i64 (pd), .slice Ad' nd' cd', .int .i64 (qd)] 25))
  have Bd := Lib.hid (Box.new w1 25 [.slice Ad nd cd, .int .i64 (pd), .slice Ad' nd' cd', .int .i64 (qd)])
  have s2 : w1.heap.size + 1 ≤ (w1.alloc (.cells #[.slice Ad nd cd, .int .i64 (pd), .slice Ad' nd' cd', .int .i64 (qd)] 25)).heap.size := by simp
  generalize w1.alloc (.cells #[.slice Ad nd cd, .int .i64 (pd), .slice Ad' nd' cd', .int .i64 (qd)] 25) = w2 at *
  cases hg : wrGood Dd pd Sd qd Ll
  · refine (to_dii (WriteDevice_x d1.out d2.out l1.out (by omega) (by omega) (by omega) hcd hcd' hcl (by omega) (by omega) (by omega)) (wr_no hg)).mono ?_
    rintro e w3 ⟨Ax, nx, cx, Ax', nx', cx', rfl, ⟨hcx, hcx'⟩, hb, ⟨hd, hd', _, _, _⟩⟩
    (try simp only [World.size_alloc, World.size_setCell, World.size_drew] at hb)
    have HB := Lib.hid hb
    clear hb
    have s3 := HB.out.size
    (try simp only [World.size_alloc, World.size_setCell, World.size_drew] at s3)
    replace l1 := Lib.hid (l1.out.below HB.out (by omega))
    replace d1 := Lib.hid (d1.out.below HB.out (by omega))
    replace d2 := Lib.hid (d2.out.below HB.out (by omega))
    replace Bd := Lib.hid (Bd.out.below HB.out (by omega))
    replace EB := Lib.hid (below_step HB.out EB.out (by omega))
    clear HB
    have x1 := Lib.hid hd
    have x2 := Lib.hid hd'
    clear hd hd'
    have vdl := Bd.out.lt
    have vd0 := (Bd.out.2 0 _ rfl).1
    have vd1 := (Bd.out.2 1 _ rfl).1
    have vd2 := (Bd.out.2 2 _ rfl).1
    have vd3 := (Bd.out.2 3 _ rfl).1
    go_wp2_with fail
    clear vdl vd0 vd1 vd2 vd3
    replace l1 := Lib.hid (l1.out.alloc (by omega) (.cells #[.slice Ax nx cx, .int .i64 (0), .slice Ax' nx' cx', .int .i64 (0)] 25))
    replace d1 := Lib.hid (d1.out.alloc (by omega) (.cells #[.slice Ax nx cx, .int .i64 (0), .slice Ax' nx' cx', .int .i64 (0)] 25))
    replace d2 := Lib.hid (d2.out.alloc (by omega) (.cells #[.slice Ax nx cx, .int .i64 (0), .slice Ax' nx' cx', .int .i64 (0)] 25))
    replace Bd := Lib.hid (Bd.out.alloc (.cells #[.slice Ax nx cx, .int .i64 (0), .slice Ax' nx' cx', .int .i64 (0)] 25))
    replace x1 := Lib.hid (x1.out.alloc (by omega) (.cells #[.slice Ax nx cx, .int .i64 (0), .slice Ax' nx' cx', .int .i64 (0)] 25))
    replace x2 := Lib.hid (x2.out.alloc (by omega) (.cells #[.slice Ax nx cx, .int .i64 (0), .slice Ax' nx' cx', .int .i64 (0)] 25))
    replace EB := Lib.hid (EB.out.alloc (by omega) (.cells #[.slice Ax nx cx, .int .i64 (0), .slice Ax' nx' cx', .int .i64 (0)] 25))
    have Bx := Lib.hid (Box.new w3 25 [.slice Ax nx cx, .int .i64 (0), .slice Ax' nx' cx', .int .i64 (0)])
    have s4 : w3.heap.size + 1 ≤ (w3.alloc (.cells #[.slice Ax nx cx, .int .i64 (0), .slice Ax' nx' cx', .int .i64 (0)] 25)).heap.size := by simp
    generalize w3.alloc (.cells #[.slice Ax nx cx, .int .i64 (0), .slice Ax' nx' cx', .int .i64 (0)] 25) = w4 at *
    refine (to_dii (SWriteDevice_x d1.out d2.out l1.out (by omega) (by omega) (by omega) hcd hcd' hcl (by omega) (by omega) (by omega)) (wr_no hg)).mono ?_
    rintro e w5 ⟨Ay, ny, cy, Ay', ny', cy', rfl, ⟨hcy, hcy'⟩, hb, ⟨hd, hd', _, _, _⟩⟩
    (try simp only [World.size_alloc, World.size_setCell, World.size_drew] at hb)
    have HB := Lib.hid hb
    clear hb
    have s5 := HB.out.size
    (try simp only [World.size_alloc, World.size_setCell, World.size_drew] at s5)
    replace l1 := Lib.hid (l1.out.below HB.out (by omega))
    replace d1 := Lib.hid (d1.out.below HB.out (by omega))
    replace d2 := Lib.hid (d2.out.below HB.out (by omega))
    replace Bd := Lib.hid (Bd.out.below HB.out (by omega))
    replace x1 := Lib.hid (x1.out.below HB.out (by omega))
    replace x2 := Lib.hid (x2.out.below HB.out (by omega))
    replace Bx := Lib.hid (Bx.out.below HB.out (by omega))
    replace EB := Lib.hid (below_step HB.out EB.out (by omega))
    clear HB
    have y1 := Lib.hid hd
    have y2 := Lib.hid hd'
    clear hd hd'
    have vxl := Bx.out.lt
    have vx0 := (Bx.out.2 0 _ rfl).1
    have vx1 := (Bx.out.2 1 _ rfl).1
    have vx2 := (Bx.out.2 2 _ rfl).1
    have vx3 := (Bx.out.2 3 _ rfl).1
    go_wp2_with fail
    clear vxl vx0 vx1 vx2 vx3
    replace l1 := Lib.hid (l1.out.alloc (by omega) (.cells #[.slice Ay ny cy, .int .i64 (0), .slice Ay' ny' cy', .int .i64 (0)] 25))
    replace d1 := Lib.hid (d1.out.alloc (by omega) (.cells #[.slice Ay ny cy, .int .i64 (0), .slice Ay' ny' cy', .int .i64 (0)] 25))
    replace d2 := Lib.hid (d2.out.alloc (by omega) (.cells #[.slice Ay ny cy, .int .i64 (0), .slice Ay' ny' cy', .int .i64 (0)] 25))
    replace Bd := Lib.hid (Bd.out.alloc (.cells #[.slice Ay ny cy, .int .i64 (0), .slice Ay' ny' cy', .int .i64 (0)] 25))
    replace x1 := Lib.hid (x1.out.alloc (by omega) (.cells #[.slice Ay ny cy, .int .i64 (0), .slice Ay' ny' cy', .int .i64 (0)] 25))
    replace x2 := Lib.hid (x2.out.alloc (by omega) (.cells #[.slice Ay ny cy, .int .i64 (0), .slice Ay' ny' cy', .int .i64 (0)] 25))
    replace Bx := Lib.hid (Bx.out.alloc (.cells #[.slice Ay ny cy, .int .i64 (0), .slice Ay' ny' cy', .int .i64 (0)] 25))
    replace y1 := Lib.hid (y1.out.alloc (by omega) (.cells #[.slice Ay ny cy, .int .i64 (0), .slice Ay' ny' cy', .int .i64 (0)] 25))
    replace y2 := Lib.hid (y2.out.alloc (by omega) (.cells #[.slice Ay ny cy, .int .i64 (0), .slice Ay' ny' cy', .int .i64 (0)] 25))
    replace EB := Lib.hid (EB.out.alloc (by omega) (.cells #[.slice Ay ny cy, .int .i64 (0), .slice Ay' ny' cy', .int .i64 (0)] 25))
    have By := Lib.hid (Box.new w5 25 [.slice Ay ny cy, .int .i64 (0), .slice Ay' ny' cy', .int .i64 (0)])
    have s6 : w5.heap.size + 1 ≤ (w5.alloc (.cells #[.slice Ay ny cy, .int .i64 (0), .slice Ay' ny' cy', .int .i64 (0)] 25)).heap.size := by simp
    generalize w5.alloc (.cells #[.slice Ay ny cy, .int .i64 (0), .slice Ay' ny' cy', .int .i64 (0)] 25) = w6 at *
    refine (equalDevice_same x1.out x2.out y1.out y2.out (by omega) (by omega) (by omega) (by omega)).mono ?_
    rintro e w7 ⟨rfl, hb⟩
    (try simp only [World.size_alloc, World.size_setCell, World.size_drew] at hb)
    have HB := Lib.hid hb
    clear hb
    have s7 := HB.out.size
    (try simp only [World.size_alloc, World.size_setCell, World.size_drew] at s7)
    replace l1 := Lib.hid (l1.out.below HB.out (by omega))
    replace d1 := Lib.hid (d1.out.below HB.out (by omega))
    replace d2 := Lib.hid (d2.out.below HB.out (by omega))
    replace Bd := Lib.hid (Bd.out.below HB.out (by omega))
    replace x1 := Lib.hid (x1.out.below HB.out (by omega))
    replace x2 := Lib.hid (x2.out.below HB.out (by omega))
    replace Bx := Lib.hid (Bx.out.below HB.out (by omega))
    replace y1 := Lib.hid (y1.out.below HB.out (by omega))
    replace y2 := Lib.hid (y2.out.below HB.out (by omega))
    replace By := Lib.hid (By.out.below HB.out (by omega))
    replace EB := Lib.hid (below_step HB.out EB.out (by omega))
    clear HB
    have vxl := Bx.out.lt
    have vx0 := (Bx.out.2 0 _ rfl).1
    have vx1 := (Bx.out.2 1 _ rfl).1
    have vx2 := (Bx.out.2 2 _ rfl).1
    have vx3 := (Bx.out.2 3 _ rfl).1
    have vyl := By.out.lt
    have vy0 := (By.out.2 0 _ rfl).1
    have vy1 := (By.out.2 1 _ rfl).1
    have vy2 := (By.out.2 2 _ rfl).1
    have vy3 := (By.out.2 3 _ rfl).1
    go_wp2_with fail
    refine (equalDevice_same x1.out x2.out y1.out y2.out (by omega) (by omega) (by omega) (by omega)).mono ?_
    clear vxl vx0 vx1 vx2 vx3 vyl vy0 vy1 vy2 vy3
    rintro e w8 ⟨rfl, hb⟩
    (try simp only [World.size_alloc, World.size_setCell, World.size_drew] at hb)
    have HB := Lib.hid hb
    clear hb
    have s8 := HB.out.size
    (try simp only [World.size_alloc, World.size_setCell, World.size_drew] at s8)
    replace l1 := Lib.hid (l1.out.below HB.out (by omega))
    replace d1 := Lib.hid (d1.out.below HB.out (by omega))
    replace d2 := Lib.hid (d2.out.below HB.out (by omega))
    replace Bd := Lib.hid (Bd.out.below HB.out (by omega))
    replace x1 := Lib.hid (x1.out.below HB.out (by omega))
    replace x2 := Lib.hid (x2.out.below HB.out (by omega))
    replace Bx := Lib.hid (Bx.out.below HB.out (by omega))
    replace y1 := Lib.hid (y1.out.below HB.out (by omega))
    replace y2 := Lib.hid (y2.out.below HB.out (by omega))
    replace By := Lib.hid (By.out.below HB.out (by omega))
    replace EB := Lib.hid (below_step HB.out EB.out (by omega))
    clear HB
    go_wp2
    go_ret
    exact ⟨rfl, EB.out⟩
  · obtain ⟨hv, hq, hL1, _⟩ := wrGood_iff.1 hg
    obtain ⟨m, st, ho, hhow⟩ := wr_how hg
    have hvx := valid_write (m := m) hg (by omega)
    have hs5 : ¬ st = 5 := by omega
    have hml : m ≤ nl := by have := l1.out.len; omega
    have hp0 := (validD_iff.1 hv).2.2.2.1
    have hq0 := (validD_iff.1 hv).2.2.2.2
    obtain ⟨a, rfl⟩ := Int.eq_ofNat_of_zero_le hp0.1
    have HPRE : Hid ((Ll.take m).isPrefixOf ((wrL Dd a (Ll.take m)).drop a) = true) := wrL_pre
    have HPR0 : Hid (∀ k, k ≤ a → (Dd.take k).isPrefixOf (wrL Dd a (Ll.take m)) = true) := fun k hk => wrL_pre0 hk
    have HLW : Hid (1 ≤ m → m ≤ Ll.length → (wrL Dd a (Ll.take m)).length = max Dd.length (a + m)) := fun h1 h2 => by rw [wrL_len (by rw [List.length_take]; omega), List.length_take]; omega
    have HW0 : Hid (m = 0 → (wrL Dd a (Ll.take m)).length = Dd.length) := fun h => by rw [h, wrL_none]
    rw [Int.toNat_natCast] at ho hvx
    obtain ⟨W, hW⟩ : ∃ W, wrL Dd a (Ll.take m) = W := ⟨_, rfl⟩
    rw [hW] at ho hvx HPRE HPR0 HLW HW0
    have hW60 := bytesB_le (validD_iff.1 hvx).1
    have hpm := (validD_iff.1 hvx).2.2.2.1
    have HHOW := Lib.hid hhow
    have HVX := Lib.hid hvx
    clear hhow hvx hW hv hg
    refine (to_dii (WriteDevice_x d1.out d2.out l1.out (by omega) (by omega) (by omega) hcd hcd' hcl (by omega) (by omega) (by omega)) ho).mono ?_
    rintro e w3 ⟨Ax, nx, cx, Ax', nx', cx', rfl, ⟨hcx, hcx'⟩, hb, ⟨hd, hd', _, _, _⟩⟩
    (try simp only [World.size_alloc, World.size_setCell, World.size_drew] at hb)
    have HB := Lib.hid hb
    clear hb
    have s3 := HB.out.size
    (try simp only [World.size_alloc, World.size_setCell, World.size_drew] at s3)
    replace l1 := Lib.hid (l1.out.below HB.out (by omega))
    replace d1 := Lib.hid (d1.out.below HB.out (by omega))
    replace d2 := Lib.hid (d2.out.below HB.out (by omega))
    replace Bd := Lib.hid (Bd.out.below HB.out (by omega))
    replace EB := Lib.hid (below_step HB.out EB.out (by omega))
    clear HB
    have x1 := Lib.hid hd
    have x2 := Lib.hid hd'
    clear hd hd'
    have vdl := Bd.out.lt
    have vd0 := (Bd.out.2 0 _ rfl).1
    have vd1 := (Bd.out.2 1 _ rfl).1
    have vd2 := (Bd.out.2 2 _ rfl).1
    have vd3 := (Bd.out.2 3 _ rfl).1
    go_wp2_with fail
    clear vdl vd0 vd1 vd2 vd3
    replace l1 := Lib.hid (l1.out.alloc (by omega) (.cells #[.slice Ax nx cx, .int .i64 ((a : Int) + (m : Int)), .slice Ax' nx' cx', .int .i64 (qd + 1)] 25))
    replace d1 := Lib.hid (d1.out.alloc (by omega) (.cells #[.slice Ax nx cx, .int .i64 ((a : Int) + (m : Int)), .slice Ax' nx' cx', .int .i64 (qd + 1)] 25))
    replace d2 := Lib.hid (d2.out.alloc (by omega) (.cells #[.slice Ax nx cx, .int .i64 ((a : Int) + (m : Int)), .slice Ax' nx' cx', .int .i64 (qd + 1)] 25))
    replace Bd := Lib.hid (Bd.out.alloc (.cells #[.slice Ax nx cx, .int .i64 ((a : Int) + (m : Int)), .slice Ax' nx' cx', .int .i64 (qd + 1)] 25))
    replace x1 := Lib.hid (x1.out.alloc (by omega) (.cells #[.slice Ax nx cx, .int .i64 ((a : Int) + (m : Int)), .slice Ax' nx' cx', .int .i64 (qd + 1)] 25))
    replace x2 := Lib.hid (x2.out.alloc (by omega) (.cells #[.slice Ax nx cx, .int .i64 ((a : Int) + (m : Int)), .slice Ax' nx' cx', .int .i64 (qd + 1)] 25))
    replace EB := Lib.hid (EB.out.alloc (by omega) (.cells #[.slice Ax nx cx, .int .i64 ((a : Int) + (m : Int)), .slice Ax' nx' cx', .int .i64 (qd + 1)] 25))
    have Bx := Lib.hid (Box.new w3 25 [.slice Ax nx cx, .int .i64 ((a : Int) + (m : Int)), .slice Ax' nx' cx', .int .i64 (qd + 1)])
    have s4 : w3.heap.size + 1 ≤ (w3.alloc (.cells #[.slice Ax nx cx, .int .i64 ((a : Int) + (m : Int)), .slice Ax' nx' cx', .int .i64 (qd + 1)] 25)).heap.size := by simp
    generalize w3.alloc (.cells #[.slice Ax nx cx, .int .i64 ((a : Int) + (m : Int)), .slice Ax' nx' cx', .int .i64 (qd + 1)] 25) = w4 at *
    refine (to_dii (SWriteDevice_x d1.out d2.out l1.out (by omega) (by omega) (by omega) hcd hcd' hcl (by omega) (by omega) (by omega)) ho).mono ?_
    rintro e w5 ⟨Ay, ny, cy, Ay', ny', cy', rfl, ⟨hcy, hcy'⟩, hb, ⟨hd, hd', _, _, _⟩⟩
    (try simp only [World.size_alloc, World.size_setCell, World.size_drew] at hb)
    have HB := Lib.hid hb
    clear hb
    have s5 := HB.out.size
    (try simp only [World.size_alloc, World.size_setCell, World.size_drew] at s5)
    replace l1 := Lib.hid (l1.out.below HB.out (by omega))
    replace d1 := Lib.hid (d1.out.below HB.out (by omega))
    replace d2 := Lib.hid (d2.out.below HB.out (by omega))
    replace Bd := Lib.hid (Bd.out.below HB.out (by omega))
    replace x1 := Lib.hid (x1.out.below HB.out (by omega))
    replace x2 := Lib.hid (x2.out.below HB.out (by omega))
    replace Bx := Lib.hid (Bx.out.below HB.out (by omega))
    replace EB := Lib.hid (below_step HB.out EB.out (by omega))
    clear HB
    have y1 := Lib.hid hd
    have y2 := Lib.hid hd'
    clear hd hd'
    have vxl := Bx.out.lt
    have vx0 := (Bx.out.2 0 _ rfl).1
    have vx1 := (Bx.out.2 1 _ rfl).1
    have vx2 := (Bx.out.2 2 _ rfl).1
    have vx3 := (Bx.out.2 3 _ rfl).1
    go_wp2_with fail
    clear vxl vx0 vx1 vx2 vx3
    replace l1 := Lib.hid (l1.out.alloc (by omega) (.cells #[.slice Ay ny cy, .int .i64 ((a : Int) + (m : Int)), .slice Ay' ny' cy', .int .i64 (qd + 1)] 25))
    replace d1 := Lib.hid (d1.out.alloc (by omega) (.cells #[.slice Ay ny cy, .int .i64 ((a : Int) + (m : Int)), .slice Ay' ny' cy', .int .i64 (qd + 1)] 25))
    replace d2 := Lib.hid (d2.out.alloc (by omega) (.cells #[.slice Ay ny cy, .int .i64 ((a : Int) + (m : Int)), .slice Ay' ny' cy', .int .i64 (qd + 1)] 25))
    replace Bd := Lib.hid (Bd.out.alloc (.cells #[.slice Ay ny cy, .int .i64 ((a : Int) + (m : Int)), .slice Ay' ny' cy', .int .i64 (qd + 1)] 25))
    replace x1 := Lib.hid (x1.out.alloc (by omega) (.cells #[.slice Ay ny cy, .int .i64 ((a : Int) + (m : Int)), .slice Ay' ny' cy', .int .i64 (qd + 1)] 25))
    replace x2 := Lib.hid (x2.out.alloc (by omega) (.cells #[.slice Ay ny cy, .int .i64 ((a : Int) + (m : Int)), .slice Ay' ny' cy', .int .i64 (qd + 1)] 25))
    replace Bx := Lib.hid (Bx.out.alloc (.cells #[.slice Ay ny cy, .int .i64 ((a : Int) + (m : Int)), .slice Ay' ny' cy', .int .i64 (qd + 1)] 25))
    replace y1 := Lib.hid (y1.out.alloc (by omega) (.cells #[.slice Ay ny cy, .int .i64 ((a : Int) + (m : Int)), .slice Ay' ny' cy', .int .i64 (qd + 1)] 25))
    replace y2 := Lib.hid (y2.out.alloc (by omega) (.cells #[.slice Ay ny cy, .int .i64 ((a : Int) + (m : Int)), .slice Ay' ny' cy', .int .i64 (qd + 1)] 25))
    replace EB := Lib.hid (EB.out.alloc (by omega) (.cells #[.slice Ay ny cy, .int .i64 ((a : Int) + (m : Int)), .slice Ay' ny' cy', .int .i64 (qd + 1)] 25))
    have By := Lib.hid (Box.new w5 25 [.slice Ay ny cy, .int .i64 ((a : Int) + (m : Int)), .slice Ay' ny' cy', .int .i64 (qd + 1)])
    have s6 : w5.heap.size + 1 ≤ (w5.alloc (.cells #[.slice Ay ny cy, .int .i64 ((a : Int) + (m : Int)), .slice Ay' ny' cy', .int .i64 (qd + 1)] 25)).heap.size := by simp
    generalize w5.alloc (.cells #[.slice Ay ny cy, .int .i64 ((a : Int) + (m : Int)), .slice Ay' ny' cy', .int .i64 (qd + 1)] 25) = w6 at *
    refine (equalDevice_same x1.out x2.out y1.out y2.out (by omega) (by omega) (by omega) (by omega)).mono ?_
    rintro e w7 ⟨rfl, hb⟩
    (try simp only [World.size_alloc, World.size_setCell, World.size_drew] at hb)
    have HB := Lib.hid hb
    clear hb
    have s7 := HB.out.size
    (try simp only [World.size_alloc, World.size_setCell, World.size_drew] at s7)
    replace l1 := Lib.hid (l1.out.below HB.out (by omega))
    replace d1 := Lib.hid (d1.out.below HB.out (by omega))
    replace d2 := Lib.hid (d2.out.below HB.out (by omega))
    replace Bd := Lib.hid (Bd.out.below HB.out (by omega))
    replace x1 := Lib.hid (x1.out.below HB.out (by omega))
    replace x2 := Lib.hid (x2.out.below HB.out (by omega))
    replace Bx := Lib.hid (Bx.out.below HB.out (by omega))
    replace y1 := Lib.hid (y1.out.below HB.out (by omega))
    replace y2 := Lib.hid (y2.out.below HB.out (by omega))
    replace By := Lib.hid (By.out.below HB.out (by omega))
    replace EB := Lib.hid (below_step HB.out EB.out (by omega))
    clear HB
    clear y1 y2 By
    have hnx : nx ≤ 1048576 := by have h1 := x1.out.len; omega
    have hnx' : nx' ≤ 1048576 := by have h1 := x2.out.len; have h2 := d2.out.len; omega
    have hwm : IntKind.i64.wrap (-(m : Int)) = -(m : Int) := IntWalk.i64_in _ (by omega)
    have hwa : IntKind.i64.wrap ((a : Int) + (m : Int)) = (a : Int) + (m : Int) := IntWalk.i64_in _ (by omega)
    have vxl := Bx.out.lt
    have vx0 := (Bx.out.2 0 _ rfl).1
    have vx1 := (Bx.out.2 1 _ rfl).1
    have vx2 := (Bx.out.2 2 _ rfl).1
    have vx3 := (Bx.out.2 3 _ rfl).1
    go_wp2_with fail
    refine (to_db (SeekDevice_x x1.out x2.out (by omega) (by omega) hcx hcx' (by omega) (by omega) (by unfold okInt; omega) (by unfold okInt; omega)) (seek_back HVX.out (by omega))).mono ?_
    clear vxl vx0 vx1 vx2 vx3
    rintro e w8 ⟨Ab, nb, cb, Ab', nb', cb', rfl, ⟨hcb, hcb'⟩, hb, ⟨hd, hd', _, _, _⟩⟩
    (try simp only [World.size_alloc, World.size_setCell, World.size_drew] at hb)
    have HB := Lib.hid hb
    clear hb
    have s8 := HB.out.size
    (try simp only [World.size_alloc, World.size_setCell, World.size_drew] at s8)
    replace l1 := Lib.hid (l1.out.below HB.out (by omega))
    replace d1 := Lib.hid (d1.out.below HB.out (by omega))
    replace d2 := Lib.hid (d2.out.below HB.out (by omega))
    replace Bd := Lib.hid (Bd.out.below HB.out (by omega))
    replace x1 := Lib.hid (x1.out.below HB.out (by omega))
    replace x2 := Lib.hid (x2.out.below HB.out (by omega))
    replace Bx := Lib.hid (Bx.out.below HB.out (by omega))
    replace EB := Lib.hid (below_step HB.out EB.out (by omega))
    clear HB
    have b1 := Lib.hid hd
    have b2 := Lib.hid hd'
    clear hd hd'
    have hnb : nb ≤ 1048576 := by have h1 := b1.out.len; have h2 := x1.out.len; (try simp only [List.length_nil, cutL_len] at h1); omega
    have hnb' : nb' ≤ 1048576 := by have h1 := b2.out.len; have h2 := x2.out.len; (try simp only [List.length_nil] at h1); omega
    have RB : Hid (restL W (a : Int) Sd (qd + 1) = W.drop a) := by show _ = _; have h1 := validD_iff.1 HVX.out; rw [rest_of (validD_iff.2 ⟨h1.1, h1.2.1, h1.2.2.1, by omega, h1.2.2.2.2⟩), Int.toNat_natCast]
    have hmc : (m : Int) ≤ (cl : Int) := by omega
    have hm0 : (0 : Int) ≤ (m : Int) := by omega
    by_cases hna : (nd : Int) < (a : Int)
    · have hkc : (nd : Int) ≤ (cd : Int) := by omega
      have hkn : nd ≤ nd := by omega
      have PK := Lib.hid (HPR0.out nd (by omega))
      have vdl := Bd.out.lt
      have vd0 := (Bd.out.2 0 _ rfl).1
      have vd1 := (Bd.out.2 1 _ rfl).1
      have vd2 := (Bd.out.2 2 _ rfl).1
      have vd3 := (Bd.out.2 3 _ rfl).1
      go_wp2_with fail
      clear vdl vd0 vd1 vd2 vd3
      replace l1 := Lib.hid (l1.out.alloc (by omega) (.cells #[.slice Ab nb cb, .int .i64 ((a : Int)), .slice Ab' nb' cb', .int .i64 (qd + 1)] 25))
      replace d1 := Lib.hid (d1.out.alloc (by omega) (.cells #[.slice Ab nb cb, .int .i64 ((a : Int)), .slice Ab' nb' cb', .int .i64 (qd + 1)] 25))
      replace d2 := Lib.hid (d2.out.alloc (by omega) (.cells #[.slice Ab nb cb, .int .i64 ((a : Int)), .slice Ab' nb' cb', .int .i64 (qd + 1)] 25))
      replace Bd := Lib.hid (Bd.out.alloc (.cells #[.slice Ab nb cb, .int .i64 ((a : Int)), .slice Ab' nb' cb', .int .i64 (qd + 1)] 25))
      replace x1 := Lib.hid (x1.out.alloc (by omega) (.cells #[.slice Ab nb cb, .int .i64 ((a : Int)), .slice Ab' nb' cb', .int .i64 (qd + 1)] 25))
      replace x2 := Lib.hid (x2.out.alloc (by omega) (.cells #[.slice Ab nb cb, .int .i64 ((a : Int)), .slice Ab' nb' cb', .int .i64 (qd + 1)] 25))
      replace Bx := Lib.hid (Bx.out.alloc (.cells #[.slice Ab nb cb, .int .i64 ((a : Int)), .slice Ab' nb' cb', .int .i64 (qd + 1)] 25))
      replace b1 := Lib.hid (b1.out.alloc (by omega) (.cells #[.slice Ab nb cb, .int .i64 ((a : Int)), .slice Ab' nb' cb', .int .i64 (qd + 1)] 25))
      replace b2 := Lib.hid (b2.out.alloc (by omega) (.cells #[.slice Ab nb cb, .int .i64 ((a : Int)), .slice Ab' nb' cb', .int .i64 (qd + 1)] 25))
      replace EB := Lib.hid (EB.out.alloc (by omega) (.cells #[.slice Ab nb cb, .int .i64 ((a : Int)), .slice Ab' nb' cb', .int .i64 (qd + 1)] 25))
      have Bb := Lib.hid (Box.new w8 25 [.slice Ab nb cb, .int .i64 ((a : Int)), .slice Ab' nb' cb', .int .i64 (qd + 1)])
      have s9 : w8.heap.size + 1 ≤ (w8.alloc (.cells #[.slice Ab nb cb, .int .i64 ((a : Int)), .slice Ab' nb' cb', .int .i64 (qd + 1)] 25)).heap.size := by simp
      generalize w8.alloc (.cells #[.slice Ab nb cb, .int .i64 ((a : Int)), .slice Ab' nb' cb', .int .i64 (qd + 1)] 25) = w9 at *
      have vxl := Bx.out.lt
      have vx0 := (Bx.out.2 0 _ rfl).1
      have vx1 := (Bx.out.2 1 _ rfl).1
      have vx2 := (Bx.out.2 2 _ rfl).1
      have vx3 := (Bx.out.2 3 _ rfl).1
      have vdl := Bd.out.lt
      have vd0 := (Bd.out.2 0 _ rfl).1
      have vd1 := (Bd.out.2 1 _ rfl).1
      have vd2 := (Bd.out.2 2 _ rfl).1
      have vd3 := (Bd.out.2 3 _ rfl).1
      have vbl := Bb.out.lt
      have vb0 := (Bb.out.2 0 _ rfl).1
      have vb1 := (Bb.out.2 1 _ rfl).1
      have vb2 := (Bb.out.2 2 _ rfl).1
      have vb3 := (Bb.out.2 3 _ rfl).1
      skip
      go_region_held3 (fun w' => (w'.cell? ⟨w3.heap.size, 0, none⟩ = some (.slice Ax nx cx) ∧ w'.cell? ⟨w3.heap.size, 1, none⟩ = some (.int .i64 ((a : Int) + (m : Int))) ∧ w'.cell? ⟨w3.heap.size, 2, none⟩ = some (.slice Ax' nx' cx') ∧ w'.cell? ⟨w3.heap.size, 3, none⟩ = some (.int .i64 (qd + 1))) ∧ (w'.cell? ⟨w1.heap.size, 0, none⟩ = some (.slice Ad nd cd) ∧ w'.cell? ⟨w1.heap.size, 1, none⟩ = some (.int .i64 (a : Int)) ∧ w'.cell? ⟨w1.heap.size, 2, none⟩ = some (.slice Ad' nd' cd') ∧ w'.cell? ⟨w1.heap.size, 3, none⟩ = some (.int .i64 (qd))) ∧ (w'.cell? ⟨w8.heap.size, 0, none⟩ = some (.slice Ab nb cb) ∧ w'.cell? ⟨w8.heap.size, 1, none⟩ = some (.int .i64 ((a : Int))) ∧ w'.cell? ⟨w8.heap.size, 2, none⟩ = some (.slice Ab' nb' cb') ∧ w'.cell? ⟨w8.heap.size, 3, none⟩ = some (.int .i64 (qd + 1)))) (go_keep)
        (first | (go_at_call 11; (with_reducible refine (to_list (RestOf_x b1.out.drew b2.out.drew (by first | omega | (simp; omega) | (simp; done)) (by first | omega | (simp; omega) | (simp; done)) hcb hcb' (by first | omega | (simp; omega) | (simp; done)) (by first | omega | (simp; omega) | (simp; done))) RB.out).mono ?_); rintro e wr0 ⟨Ar, nr, cr, rfl, hcr, hb, hl⟩; (try simp only [World.size_alloc, World.size_setCell, World.size_drew] at hb hl); have HR0 := Lib.hid hb; have sr0 := hb.size; (try simp only [World.size_alloc, World.size_setCell, World.size_drew] at sr0); have Yx0 := Lib.hid (Bx.out.drew.below hb (by omega)); have Yd0 := Lib.hid (Bd.out.drew.below hb (by omega)); have Yb0 := Lib.hid (Bb.out.drew.below hb (by omega)); have r1 := Lib.hid hl; clear hb hl; have vx0 := (Yx0.out.2 0 _ rfl).1; have vx1 := (Yx0.out.2 1 _ rfl).1; have vx2 := (Yx0.out.2 2 _ rfl).1; have vx3 := (Yx0.out.2 3 _ rfl).1; have vd0 := (Yd0.out.2 0 _ rfl).1; have vd1 := (Yd0.out.2 1 _ rfl).1; have vd2 := (Yd0.out.2 2 _ rfl).1; have vd3 := (Yd0.out.2 3 _ rfl).1; have vb0 := (Yb0.out.2 0 _ rfl).1; have vb1 := (Yb0.out.2 1 _ rfl).1; have vb2 := (Yb0.out.2 2 _ rfl).1; have vb3 := (Yb0.out.2 3 _ rfl).1) | (go_at_call 10; (with_reducible refine (begins_same r1.out ((l1.out.drew.below HR0.out (by first | omega | (simp; omega) | (simp; done))).take hml) hcr HPRE.out).mono ?_); rintro e wr1 ⟨rfl, hb⟩; (try simp only [World.size_alloc, World.size_setCell, World.size_drew] at hb); have HR1 := Lib.hid hb; have sr1 := hb.size; (try simp only [World.size_alloc, World.size_setCell, World.size_drew] at sr1); have Yx1 := Lib.hid (Yx0.out.below hb (by omega)); have Yd1 := Lib.hid (Yd0.out.below hb (by omega)); have Yb1 := Lib.hid (Yb0.out.below hb (by omega)); clear hb; have vx0 := (Yx1.out.2 0 _ rfl).1; have vx1 := (Yx1.out.2 1 _ rfl).1; have vx2 := (Yx1.out.2 2 _ rfl).1; have vx3 := (Yx1.out.2 3 _ rfl).1; have vd0 := (Yd1.out.2 0 _ rfl).1; have vd1 := (Yd1.out.2 1 _ rfl).1; have vd2 := (Yd1.out.2 2 _ rfl).1; have vd3 := (Yd1.out.2 3 _ rfl).1; have vb0 := (Yb1.out.2 0 _ rfl).1; have vb1 := (Yb1.out.2 1 _ rfl).1; have vb2 := (Yb1.out.2 2 _ rfl).1; have vb3 := (Yb1.out.2 3 _ rfl).1) | (go_at_call 10; (with_reducible refine (begins_same ((x1.out.drew.below HR0.out (by first | omega | (simp; omega) | (simp; done))).below HR1.out (by first | omega | (simp; omega) | (simp; done))) (((d1.out.drew.below HR0.out (by first | omega | (simp; omega) | (simp; done))).below HR1.out (by first | omega | (simp; omega) | (simp; done))).take hkn) hcx PK.out).mono ?_); rintro e wr2 ⟨rfl, hb⟩; (try simp only [World.size_alloc, World.size_setCell, World.size_drew] at hb); have HR2 := Lib.hid hb; have sr2 := hb.size; (try simp only [World.size_alloc, World.size_setCell, World.size_drew] at sr2); have Yx2 := Lib.hid (Yx1.out.below hb (by omega)); have Yd2 := Lib.hid (Yd1.out.below hb (by omega)); have Yb2 := Lib.hid (Yb1.out.below hb (by omega)); clear hb; have vx0 := (Yx2.out.2 0 _ rfl).1; have vx1 := (Yx2.out.2 1 _ rfl).1; have vx2 := (Yx2.out.2 2 _ rfl).1; have vx3 := (Yx2.out.2 3 _ rfl).1; have vd0 := (Yd2.out.2 0 _ rfl).1; have vd1 := (Yd2.out.2 1 _ rfl).1; have vd2 := (Yd2.out.2 2 _ rfl).1; have vd3 := (Yd2.out.2 3 _ rfl).1; have vb0 := (Yb2.out.2 0 _ rfl).1; have vb1 := (Yb2.out.2 1 _ rfl).1; have vb2 := (Yb2.out.2 2 _ rfl).1; have vb3 := (Yb2.out.2 3 _ rfl).1) | (go_at_call 12; (with_reducible refine (to_bool (ValidDevice_any (((x1.out.drew.below HR0.out (by first | omega | (simp; omega) | (simp; done))).below HR1.out (by first | omega | (simp; omega) | (simp; done))).below HR2.out (by first | omega | (simp; omega) | (simp; done))) (((x2.out.drew.below HR0.out (by first | omega | (simp; omega) | (simp; done))).below HR1.out (by first | omega | (simp; omega) | (simp; done))).below HR2.out (by first | omega | (simp; omega) | (simp; done))) (by first | omega | (simp; omega) | (simp; done)) (by first | omega | (simp; omega) | (simp; done))) HVX.out).mono ?_); rintro e wr3 ⟨rfl, hb⟩; (try simp only [World.size_alloc, World.size_setCell, World.size_drew] at hb); have HR3 := Lib.hid hb; have sr3 := hb.size; (try simp only [World.size_alloc, World.size_setCell, World.size_drew] at sr3); have Yx3 := Lib.hid (Yx2.out.below hb (by omega)); have Yd3 := Lib.hid (Yd2.out.below hb (by omega)); have Yb3 := Lib.hid (Yb2.out.below hb (by omega)); clear hb; have vx0 := (Yx3.out.2 0 _ rfl).1; have vx1 := (Yx3.out.2 1 _ rfl).1; have vx2 := (Yx3.out.2 2 _ rfl).1; have vx3 := (Yx3.out.2 3 _ rfl).1; have vd0 := (Yd3.out.2 0 _ rfl).1; have vd1 := (Yd3.out.2 1 _ rfl).1; have vd2 := (Yd3.out.2 2 _ rfl).1; have vd3 := (Yd3.out.2 3 _ rfl).1; have vb0 := (Yb3.out.2 0 _ rfl).1; have vb1 := (Yb3.out.2 1 _ rfl).1; have vb2 := (Yb3.out.2 2 _ rfl).1; have vb3 := (Yb3.out.2 3 _ rfl).1))
      go_wp2
      go_ret
      exact ⟨rfl, (below_step HR3.out (below_step HR2.out (below_step HR1.out (below_step HR0.out EB.out.drew (by first | omega | (simp; omega) | (simp; done))) (by first | omega | (simp; omega) | (simp; done))) (by first | omega | (simp; omega) | (simp; done))) (by first | omega | (simp; omega) | (simp; done)))⟩
    · have hkc : (a : Int) ≤ (cd : Int) := by omega
      have hkn : a ≤ nd := by omega
      have PK := Lib.hid (HPR0.out a (by omega))
      have vdl := Bd.out.lt
      have vd0 := (Bd.out.2 0 _ rfl).1
      have vd1 := (Bd.out.2 1 _ rfl).1
      have vd2 := (Bd.out.2 2 _ rfl).1
      have vd3 := (Bd.out.2 3 _ rfl).1
      go_wp2_with fail
      clear vdl vd0 vd1 vd2 vd3
      replace l1 := Lib.hid (l1.out.alloc (by omega) (.cells #[.slice Ab nb cb, .int .i64 ((a : Int)), .slice Ab' nb' cb', .int .i64 (qd + 1)] 25))
      replace d1 := Lib.hid (d1.out.alloc (by omega) (.cells #[.slice Ab nb cb, .int .i64 ((a : Int)), .slice Ab' nb' cb', .int .i64 (qd + 1)] 25))
      replace d2 := Lib.hid (d2.out.alloc (by omega) (.cells #[.slice Ab nb cb, .int .i64 ((a : Int)), .slice Ab' nb' cb', .int .i64 (qd + 1)] 25))
      replace Bd := Lib.hid (Bd.out.alloc (.cells #[.slice Ab nb cb, .int .i64 ((a : Int)), .slice Ab' nb' cb', .int .i64 (qd + 1)] 25))
      replace x1 := Lib.hid (x1.out.alloc (by omega) (.cells #[.slice Ab nb cb, .int .i64 ((a : Int)), .slice Ab' nb' cb', .int .i64 (qd + 1)] 25))
      replace x2 := Lib.hid (x2.out.alloc (by omega) (.cells #[.slice Ab nb cb, .int .i64 ((a : Int)), .slice Ab' nb' cb', .int .i64 (qd + 1)] 25))
      replace Bx := Lib.hid (Bx.out.alloc (.cells #[.slice Ab nb cb, .int .i64 ((a : Int)), .slice Ab' nb' cb', .int .i64 (qd + 1)] 25))
      replace b1 := Lib.hid (b1.out.alloc (by omega) (.cells #[.slice Ab nb cb, .int .i64 ((a : Int)), .slice Ab' nb' cb', .int .i64 (qd + 1)] 25))
      replace b2 := Lib.hid (b2.out.alloc (by omega) (.cells #[.slice Ab nb cb, .int .i64 ((a : Int)), .slice Ab' nb' cb', .int .i64 (qd + 1)] 25))
      replace EB := Lib.hid (EB.out.alloc (by omega) (.cells #[.slice Ab nb cb, .int .i64 ((a : Int)), .slice Ab' nb' cb', .int .i64 (qd + 1)] 25))
      have Bb := Lib.hid (Box.new w8 25 [.slice Ab nb cb, .int .i64 ((a : Int)), .slice Ab' nb' cb', .int .i64 (qd + 1)])
      have s9 : w8.heap.size + 1 ≤ (w8.alloc (.cells #[.slice Ab nb cb, .int .i64 ((a : Int)), .slice Ab' nb' cb', .int .i64 (qd + 1)] 25)).heap.size := by simp
      generalize w8.alloc (.cells #[.slice Ab nb cb, .int .i64 ((a : Int)), .slice Ab' nb' cb', .int .i64 (qd + 1)] 25) = w9 at *
      have vxl := Bx.out.lt
      have vx0 := (Bx.out.2 0 _ rfl).1
      have vx1 := (Bx.out.2 1 _ rfl).1
      have vx2 := (Bx.out.2 2 _ rfl).1
      have vx3 := (Bx.out.2 3 _ rfl).1
      have vdl := Bd.out.lt
      have vd0 := (Bd.out.2 0 _ rfl).1
      have vd1 := (Bd.out.2 1 _ rfl).1
      have vd2 := (Bd.out.2 2 _ rfl).1
      have vd3 := (Bd.out.2 3 _ rfl).1
      have vbl := Bb.out.lt
      have vb0 := (Bb.out.2 0 _ rfl).1
      have vb1 := (Bb.out.2 1 _ rfl).1
      have vb2 := (Bb.out.2 2 _ rfl).1
      have vb3 := (Bb.out.2 3 _ rfl).1
      skip
      go_region_held3 (fun w' => (w'.cell? ⟨w3.heap.size, 0, none⟩ = some (.slice Ax nx cx) ∧ w'.cell? ⟨w3.heap.size, 1, none⟩ = some (.int .i64 ((a : Int) + (m : Int))) ∧ w'.cell? ⟨w3.heap.size, 2, none⟩ = some (.slice Ax' nx' cx') ∧ w'.cell? ⟨w3.heap.size, 3, none⟩ = some (.int .i64 (qd + 1))) ∧ (w'.cell? ⟨w1.heap.size, 0, none⟩ = some (.slice Ad nd cd) ∧ w'.cell? ⟨w1.heap.size, 1, none⟩ = some (.int .i64 (a : Int)) ∧ w'.cell? ⟨w1.heap.size, 2, none⟩ = some (.slice Ad' nd' cd') ∧ w'.cell? ⟨w1.heap.size, 3, none⟩ = some (.int .i64 (qd))) ∧ (w'.cell? ⟨w8.heap.size, 0, none⟩ = some (.slice Ab nb cb) ∧ w'.cell? ⟨w8.heap.size, 1, none⟩ = some (.int .i64 ((a : Int))) ∧ w'.cell? ⟨w8.heap.size, 2, none⟩ = some (.slice Ab' nb' cb') ∧ w'.cell? ⟨w8.heap.size, 3, none⟩ = some (.int .i64 (qd + 1)))) (go_keep)
        (first | (go_at_call 11; (with_reducible refine (to_list (RestOf_x b1.out.drew b2.out.drew (by first | omega | (simp; omega) | (simp; done)) (by first | omega | (simp; omega) | (simp; done)) hcb hcb' (by first | omega | (simp; omega) | (simp; done)) (by first | omega | (simp; omega) | (simp; done))) RB.out).mono ?_); rintro e wr0 ⟨Ar, nr, cr, rfl, hcr, hb, hl⟩; (try simp only [World.size_alloc, World.size_setCell, World.size_drew] at hb hl); have HR0 := Lib.hid hb; have sr0 := hb.size; (try simp only [World.size_alloc, World.size_setCell, World.size_drew] at sr0); have Yx0 := Lib.hid (Bx.out.drew.below hb (by omega)); have Yd0 := Lib.hid (Bd.out.drew.below hb (by omega)); have Yb0 := Lib.hid (Bb.out.drew.below hb (by omega)); have r1 := Lib.hid hl; clear hb hl; have vx0 := (Yx0.out.2 0 _ rfl).1; have vx1 := (Yx0.out.2 1 _ rfl).1; have vx2 := (Yx0.out.2 2 _ rfl).1; have vx3 := (Yx0.out.2 3 _ rfl).1; have vd0 := (Yd0.out.2 0 _ rfl).1; have vd1 := (Yd0.out.2 1 _ rfl).1; have vd2 := (Yd0.out.2 2 _ rfl).1; have vd3 := (Yd0.out.2 3 _ rfl).1; have vb0 := (Yb0.out.2 0 _ rfl).1; have vb1 := (Yb0.out.2 1 _ rfl).1; have vb2 := (Yb0.out.2 2 _ rfl).1; have vb3 := (Yb0.out.2 3 _ rfl).1) | (go_at_call 10; (with_reducible refine (begins_same r1.out ((l1.out.drew.below HR0.out (by first | omega | (simp; omega) | (simp; done))).take hml) hcr HPRE.out).mono ?_); rintro e wr1 ⟨rfl, hb⟩; (try simp only [World.size_alloc, World.size_setCell, World.size_drew] at hb); have HR1 := Lib.hid hb; have sr1 := hb.size; (try simp only [World.size_alloc, World.size_setCell, World.size_drew] at sr1); have Yx1 := Lib.hid (Yx0.out.below hb (by omega)); have Yd1 := Lib.hid (Yd0.out.below hb (by omega)); have Yb1 := Lib.hid (Yb0.out.below hb (by omega)); clear hb; have vx0 := (Yx1.out.2 0 _ rfl).1; have vx1 := (Yx1.out.2 1 _ rfl).1; have vx2 := (Yx1.out.2 2 _ rfl).1; have vx3 := (Yx1.out.2 3 _ rfl).1; have vd0 := (Yd1.out.2 0 _ rfl).1; have vd1 := (Yd1.out.2 1 _ rfl).1; have vd2 := (Yd1.out.2 2 _ rfl).1; have vd3 := (Yd1.out.2 3 _ rfl).1; have vb0 := (Yb1.out.2 0 _ rfl).1; have vb1 := (Yb1.out.2 1 _ rfl).1; have vb2 := (Yb1.out.2 2 _ rfl).1; have vb3 := (Yb1.out.2 3 _ rfl).1) | (go_at_call 10; (with_reducible refine (begins_same ((x1.out.drew.below HR0.out (by first | omega | (simp; omega) | (simp; done))).below HR1.out (by first | omega | (simp; omega) | (simp; done))) (((d1.out.drew.below HR0.out (by first | omega | (simp; omega) | (simp; done))).below HR1.out (by first | omega | (simp; omega) | (simp; done))).take hkn) hcx PK.out).mono ?_); rintro e wr2 ⟨rfl, hb⟩; (try simp only [World.size_alloc, World.size_setCell, World.size_drew] at hb); have HR2 := Lib.hid hb; have sr2 := hb.size; (try simp only [World.size_alloc, World.size_setCell, World.size_drew] at sr2); have Yx2 := Lib.hid (Yx1.out.below hb (by omega)); have Yd2 := Lib.hid (Yd1.out.below hb (by omega)); have Yb2 := Lib.hid (Yb1.out.below hb (by omega)); clear hb; have vx0 := (Yx2.out.2 0 _ rfl).1; have vx1 := (Yx2.out.2 1 _ rfl).1; have vx2 := (Yx2.out.2 2 _ rfl).1; have vx3 := (Yx2.out.2 3 _ rfl).1; have vd0 := (Yd2.out.2 0 _ rfl).1; have vd1 := (Yd2.out.2 1 _ rfl).1; have vd2 := (Yd2.out.2 2 _ rfl).1; have vd3 := (Yd2.out.2 3 _ rfl).1; have vb0 := (Yb2.out.2 0 _ rfl).1; have vb1 := (Yb2.out.2 1 _ rfl).1; have vb2 := (Yb2.out.2 2 _ rfl).1; have vb3 := (Yb2.out.2 3 _ rfl).1) | (go_at_call 12; (with_reducible refine (to_bool (ValidDevice_any (((x1.out.drew.below HR0.out (by first | omega | (simp; omega) | (simp; done))).below HR1.out (by first | omega | (simp; omega) | (simp; done))).below HR2.out (by first | omega | (simp; omega) | (simp; done))) (((x2.out.drew.below HR0.out (by first | omega | (simp; omega) | (simp; done))).below HR1.out (by first | omega | (simp; omega) | (simp; done))).below HR2.out (by first | omega | (simp; omega) | (simp; done))) (by first | omega | (simp; omega) | (simp; done)) (by first | omega | (simp; omega) | (simp; done))) HVX.out).mono ?_); rintro e wr3 ⟨rfl, hb⟩; (try simp only [World.size_alloc, World.size_setCell, World.size_drew] at hb); have HR3 := Lib.hid hb; have sr3 := hb.size; (try simp only [World.size_alloc, World.size_setCell, World.size_drew] at sr3); have Yx3 := Lib.hid (Yx2.out.below hb (by omega)); have Yd3 := Lib.hid (Yd2.out.below hb (by omega)); have Yb3 := Lib.hid (Yb2.out.below hb (by omega)); clear hb; have vx0 := (Yx3.out.2 0 _ rfl).1; have vx1 := (Yx3.out.2 1 _ rfl).1; have vx2 := (Yx3.out.2 2 _ rfl).1; have vx3 := (Yx3.out.2 3 _ rfl).1; have vd0 := (Yd3.out.2 0 _ rfl).1; have vd1 := (Yd3.out.2 1 _ rfl).1; have vd2 := (Yd3.out.2 2 _ rfl).1; have vd3 := (Yd3.out.2 3 _ rfl).1; have vb0 := (Yb3.out.2 0 _ rfl).1; have vb1 := (Yb3.out.2 1 _ rfl).1; have vb2 := (Yb3.out.2 2 _ rfl).1; have vb3 := (Yb3.out.2 3 _ rfl).1))
      go_wp2
      go_ret
      exact ⟨rfl, (below_step HR3.out (below_step HR2.out (below_step HR1.out (below_step HR0.out EB.out.drew (by first | omega | (simp; omega) | (simp; done))) (by first | omega | (simp; omega) | (simp; done))) (by first | omega | (simp; omega) | (simp; done))) (by first | omega | (simp; omega) | (simp; done)))⟩

theorem contract (H : Type) (enc : TypeId × Value → H) (W : World) (base : Nat) (args : Array Value) (ds gs : List (DataW H)) (before : List MemPlace)
    (hval : ∀ (j : Nat) t v, Try.f3.params[j]? = some t → args[j]? = some v → Value.okWide Try.prog W .any base t v)
    (hW : DataW.Whole enc Try.prog Try.f3.params.toList Rows.fnWriteDeviceSpec.vars false W args.toList ds gs before) :
    Calls Try.prog 3 args W fun e W' => ∃ v, e = .returned v ∧ Rows.fnWriteDeviceSpec.post enc Try.prog Try.f3 false true false false W args v W' := by
  have hW' := hW
  have hlt : ∀ p ∈ before, p.block < W.heap.size := fun p hp => hW.lt p hp
  obtain ⟨p, q, hA0, hV, rfl, hfz, hnd⟩ := hW
  have hA : DataW.TrodAll enc Try.prog W 0 (fun _ => true) true Try.f3.params.toList args.toList ds p := hA0
  rw [Try.params3] at hA hval
  obtain ⟨v0, vs0, d0, ds0, p0, q0, hargs, rfl, rfl, h0, r0⟩ := trodAll_cons hA
  obtain ⟨rfl, rfl, rfl⟩ := trodAll_nil r0
  obtain rfl : args = #[v0] := by cases args; simp_all
  obtain ⟨rfl, rfl⟩ := trodVars_none hV
  obtain ⟨A, n, c, rfl, hnc, hby, hmx⟩ := arg_bytes (hval 0 _ v0 rfl rfl) h0 (fun p hp => hlt p (by simp [hp]))
  refine (walk A n c W hby hnc hmx).mono fun e W' hh => ?_
  obtain ⟨rfl, hb⟩ := hh
  exact ⟨_, rfl, law_post laidOut (tys_of (by rw [Try.params3]; kernel_rfl)) hW' rfl rfl rfl Try.underlying4 hb⟩

set_option maxRecDepth 100000 in
theorem lifted (os : Os) (started : os.Started) (H : Type) (enc : TypeId × Value → H) :
    ReturnsInHanded {} Try.checked os 3 .any (Rows.fnWriteDeviceSpec.pre6 enc Try.prog Try.f3 Rows.fnWriteDeviceRow.domain false) (Rows.fnWriteDeviceSpec.post enc Try.prog Try.f3 false true false false) := by
  refine returnsInHanded_of_change (C := Try.checked) own started (by kernel_rfl) Try.func3
    (ChangeSpec.witness6 (C := Try.checked) false ⟨#[], #[.slice none 0 0], []⟩ 8 (by kernel_rfl) (by kernel_rfl) (by kernel_rfl) (by kernel_rfl)) ?_
  intro W base args ds gs before hval hW _ _
  exact contract H enc W base args ds gs before hval hW

theorem holds : Rows.FnWriteDeviceSaid :=
  OpenClaim.holds_of_wide 3 Try.f3 rfl rfl rfl rfl rfl rfl rfl ⟨rfl, rfl, rfl, rfl, rfl⟩ rfl rfl rfl rfl rfl (by kernel_rfl) Try.func3 (by kernel_rfl)
    (of_decide_eq_true (by kernel_rfl)) (by unfold Func.isWrapper; first | (rw [if_pos (by decide +kernel)]; kernel_rfl) | (rw [if_neg (by decide +kernel)]; exact ⟨rfl, rfl⟩))
    (fun os started H enc _ => lifted os started H enc)
end LawWriteDevice
end Go.Proofs.Ytgdhdgalnoabfaa
