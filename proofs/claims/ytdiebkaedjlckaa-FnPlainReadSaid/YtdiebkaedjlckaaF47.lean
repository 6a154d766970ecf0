/- The law of promise 47: what was read of a plain file is read again from the same place. No conditions. -/
import Derived.Test.YtdiebkaedjlckaaK4
import Derived.Test.YtdiebkaedjlckaaG6
import Derived.Test.YtdiebkaedjlckaaS4c
set_option maxRecDepth 10000
namespace Go.Proofs.Ytdiebkaedjlckaa
open Go.ChangeShapes Go.WideShapes Go.ChangeAt Go.RowKit
set_option linter.unusedSimpArgs false
set_option linter.unusedVariables false
namespace LawPlainRead
set_option maxHeartbeats 8000000 in
theorem walk (A : Option Addr) (n c : Nat) (w : World) (h : BytesIn w w.heap.size A n) (hnc : n ≤ c) (hm : n ≤ 9223372036854775807) :
    Calls Try.prog 4 #[.slice A n c] w (BoolB true w) := by
  have HBY := Lib.hid h
  clear h
  have EB := Lib.hid (Below.refl w.heap.size w)
  by_cases hbig : (1048576 : Int) < (n : Int)
  · go_enter Try.func4, Try.ntmps4
    go_wp2
    go_ret
    exact ⟨rfl, Below.refl _ _⟩
  go_enter Try.func4, Try.ntmps4
  go_wp2_with fail
  refine (DrawPlainRead_any HBY.out (by omega) hnc).mono ?_
  rintro e w1 ⟨Ad, nd, cd, Dd, pd, zn, rfl, ⟨hcd, hb, hd, hnd, hpd⟩, hzn⟩
  (try simp only [World.size_alloc, World.size_setCell, World.size_drew] at hb)
  have HB := Lib.hid hb
  clear hb
  have s1 := HB.out.size
  (try simp only [World.size_alloc, World.size_setCell, World.size_drew] at s1)
  replace EB := Lib.hid (below_step HB.out EB.out (by omega))
  clear HB
  have d1 := Lib.hid hd
  clear hd
  clear HBY
  go_wp2_with fail
  replace d1 := Lib.hid (d1.out.alloc (by omega) (.cells #[.slice Ad nd cd, .int .i64 (pd)] 35))
  replace EB := Lib.hid (EB.out.alloc (by omega) (.cells #[.slice Ad nd cd, .int .i64 (pd)] 35))
  have Bd := Lib.hid (Box.new w1 35 [.slice Ad nd cd, .int .i64 (pd)])
  have s2 : w1.heap.size + 1 ≤ (w1.alloc (.cells #[.slice Ad nd cd, .int .i64 (pd)] 35)).heap.size := by simp
  generalize w1.alloc (.cells #[.slice Ad nd cd, .int .i64 (pd)] 35) = w2 at *
  cases hg : validP Dd pd && inB zn 0 60
  · have vdl := Bd.out.lt
    have vd0 := (Bd.out.2 0 _ rfl).1
    have vd1 := (Bd.out.2 1 _ rfl).1
    go_wp2_with fail
    refine (to_pl (PlainRead_x d1.out (by omega) hcd (by omega) (by unfold okInt; omega)) (pr_no hg)).mono ?_
    clear vdl vd0 vd1
    rintro e w3 ⟨Ax, nx, cx, Al, nl, cl, rfl, ⟨hcx, hcl⟩, hb, hd, hl⟩
    (try simp only [World.size_alloc, World.size_setCell, World.size_drew] at hb)
    have HB := Lib.hid hb
    clear hb
    have s3 := HB.out.size
    (try simp only [World.size_alloc, World.size_setCell, World.size_drew] at s3)
    replace d1 := Lib.hid (d1.out.below HB.out (by omega))
    replace Bd := Lib.hid (Bd.out.below HB.out (by omega))
    replace EB := Lib.hid (below_step HB.out EB.out (by omega))
    clear HB
    have l1 := Lib.hid hl
    have x1 := Lib.hid hd
    clear hd hl
    have hnx : nx ≤ 1048576 := by have h1 := x1.out.len; simp at h1; omega
    have vdl := Bd.out.lt
    have vd0 := (Bd.out.2 0 _ rfl).1
    have vd1 := (Bd.out.2 1 _ rfl).1
    go_wp2_with fail
    clear vdl vd0 vd1
    replace d1 := Lib.hid (d1.out.alloc (by omega) (.cells #[.slice Ax nx cx, .int .i64 (0)] 35))
    replace Bd := Lib.hid (Bd.out.alloc (.cells #[.slice Ax nx cx, .int .i64 (0)] 35))
    replace l1 := Lib.hid (l1.out.alloc (by omega) (.cells #[.slice Ax nx cx, .int .i64 (0)] 35))
    replace x1 := Lib.hid (x1.out.alloc (by omega) (.cells #[.slice Ax nx cx, .int .i64 (0)] 35))
    replace EB := Lib.hid (EB.out.alloc (by omega) (.cells #[.slice Ax nx cx, .int .i64 (0)] 35))
    have Bx := Lib.hid (Box.new w3 35 [.slice Ax nx cx, .int .i64 (0)])
    have s4 : w3.heap.size + 1 ≤ (w3.alloc (.cells #[.slice Ax nx cx, .int .i64 (0)] 35)).heap.size := by simp
    generalize w3.alloc (.cells #[.slice Ax nx cx, .int .i64 (0)] 35) = w4 at *
    refine (to_pl (SPlainRead_x d1.out (by omega) hcd (by omega) (by unfold okInt; omega)) (pr_no hg)).mono ?_
    rintro e w5 ⟨Ay, ny, cy, Am, nm, cm, rfl, ⟨hcy, hcm⟩, hb, hd, hl⟩
    (try simp only [World.size_alloc, World.size_setCell, World.size_drew] at hb)
    have HB := Lib.hid hb
    clear hb
    have s5 := HB.out.size
    (try simp only [World.size_alloc, World.size_setCell, World.size_drew] at s5)
    replace d1 := Lib.hid (d1.out.below HB.out (by omega))
    replace Bd := Lib.hid (Bd.out.below HB.out (by omega))
    replace l1 := Lib.hid (l1.out.below HB.out (by omega))
    replace x1 := Lib.hid (x1.out.below HB.out (by omega))
    replace Bx := Lib.hid (Bx.out.below HB.out (by omega))
    replace EB := Lib.hid (below_step HB.out EB.out (by omega))
    clear HB
    have m1 := Lib.hid hl
    have y1 := Lib.hid hd
    clear hd hl
    have hny : ny ≤ 1048576 := by have h1 := y1.out.len; simp at h1; omega
    have vdl := Bd.out.lt
    have vd0 := (Bd.out.2 0 _ rfl).1
    have vd1 := (Bd.out.2 1 _ rfl).1
    go_wp2_with fail
    clear vdl vd0 vd1
    replace d1 := Lib.hid (d1.out.alloc (by omega) (.cells #[.slice Ay ny cy, .int .i64 (0)] 35))
    replace Bd := Lib.hid (Bd.out.alloc (.cells #[.slice Ay ny cy, .int .i64 (0)] 35))
    replace l1 := Lib.hid (l1.out.alloc (by omega) (.cells #[.slice Ay ny cy, .int .i64 (0)] 35))
    replace x1 := Lib.hid (x1.out.alloc (by omega) (.cells #[.slice Ay ny cy, .int .i64 (0)] 35))
    replace Bx := Lib.hid (Bx.out.alloc (.cells #[.slice Ay ny cy, .int .i64 (0)] 35))
    replace m1 := Lib.hid (m1.out.alloc (by omega) (.cells #[.slice Ay ny cy, .int .i64 (0)] 35))
    replace y1 := Lib.hid (y1.out.alloc (by omega) (.cells #[.slice Ay ny cy, .int .i64 (0)] 35))
    replace EB := Lib.hid (EB.out.alloc (by omega) (.cells #[.slice Ay ny cy, .int .i64 (0)] 35))
    have By := Lib.hid (Box.new w5 35 [.slice Ay ny cy, .int .i64 (0)])
    have s6 : w5.heap.size + 1 ≤ (w5.alloc (.cells #[.slice Ay ny cy, .int .i64 (0)] 35)).heap.size := by simp
    generalize w5.alloc (.cells #[.slice Ay ny cy, .int .i64 (0)] 35) = w6 at *
    cases hb0 : validD Dd 0 [] 0
    · refine (to_db (NewDevice_x d1.out (Ints.nil _ 0 0 0 none).1 (by omega) (by omega) hcd (Nat.le_refl _) (by omega) (by omega)) (new_no hb0)).mono ?_
      rintro e w7 ⟨Ag, ng, cg, Ag', ng', cg', rfl, ⟨hcg, hcg'⟩, hb, ⟨hd, hd', _, _, _⟩⟩
      (try simp only [World.size_alloc, World.size_setCell, World.size_drew] at hb)
      have HB := Lib.hid hb
      clear hb
      have s7 := HB.out.size
      (try simp only [World.size_alloc, World.size_setCell, World.size_drew] at s7)
      replace d1 := Lib.hid (d1.out.below HB.out (by omega))
      replace Bd := Lib.hid (Bd.out.below HB.out (by omega))
      replace l1 := Lib.hid (l1.out.below HB.out (by omega))
      replace x1 := Lib.hid (x1.out.below HB.out (by omega))
      replace Bx := Lib.hid (Bx.out.below HB.out (by omega))
      replace m1 := Lib.hid (m1.out.below HB.out (by omega))
      replace y1 := Lib.hid (y1.out.below HB.out (by omega))
      replace By := Lib.hid (By.out.below HB.out (by omega))
      replace EB := Lib.hid (below_step HB.out EB.out (by omega))
      clear HB
      have g1 := Lib.hid hd
      have g2 := Lib.hid hd'
      clear hd hd'
      have vdl := Bd.out.lt
      have vd0 := (Bd.out.2 0 _ rfl).1
      have vd1 := (Bd.out.2 1 _ rfl).1
      have vxl := Bx.out.lt
      have vx0 := (Bx.out.2 0 _ rfl).1
      have vx1 := (Bx.out.2 1 _ rfl).1
      have vyl := By.out.lt
      have vy0 := (By.out.2 0 _ rfl).1
      have vy1 := (By.out.2 1 _ rfl).1
      go_wp2_with fail
      clear vdl vd0 vd1 vxl vx0 vx1 vyl vy0 vy1
      replace d1 := Lib.hid (d1.out.alloc (by omega) (.cells #[.slice Ag ng cg, .int .i64 (0), .slice Ag' ng' cg', .int .i64 (0)] 25))
      replace Bd := Lib.hid (Bd.out.alloc (.cells #[.slice Ag ng cg, .int .i64 (0), .slice Ag' ng' cg', .int .i64 (0)] 25))
      replace l1 := Lib.hid (l1.out.alloc (by omega) (.cells #[.slice Ag ng cg, .int .i64 (0), .slice Ag' ng' cg', .int .i64 (0)] 25))
      replace x1 := Lib.hid (x1.out.alloc (by omega) (.cells #[.slice Ag ng cg, .int .i64 (0), .slice Ag' ng' cg', .int .i64 (0)] 25))
      replace Bx := Lib.hid (Bx.out.alloc (.cells #[.slice Ag ng cg, .int .i64 (0), .slice Ag' ng' cg', .int .i64 (0)] 25))
      replace m1 := Lib.hid (m1.out.alloc (by omega) (.cells #[.slice Ag ng cg, .int .i64 (0), .slice Ag' ng' cg', .int .i64 (0)] 25))
      replace y1 := Lib.hid (y1.out.alloc (by omega) (.cells #[.slice Ag ng cg, .int .i64 (0), .slice Ag' ng' cg', .int .i64 (0)] 25))
      replace By := Lib.hid (By.out.alloc (.cells #[.slice Ag ng cg, .int .i64 (0), .slice Ag' ng' cg', .int .i64 (0)] 25))
      replace g1 := Lib.hid (g1.out.alloc (by omega) (.cells #[.slice Ag ng cg, .int .i64 (0), .slice Ag' ng' cg', .int .i64 (0)] 25))
      replace g2 := Lib.hid (g2.out.alloc (by omega) (.cells #[.slice Ag ng cg, .int .i64 (0), .slice Ag' ng' cg', .int .i64 (0)] 25))
      replace EB := Lib.hid (EB.out.alloc (by omega) (.cells #[.slice Ag ng cg, .int .i64 (0), .slice Ag' ng' cg', .int .i64 (0)] 25))
      have Bg := Lib.hid (Box.new w7 25 [.slice Ag ng cg, .int .i64 (0), .slice Ag' ng' cg', .int .i64 (0)])
      have s8 : w7.heap.size + 1 ≤ (w7.alloc (.cells #[.slice Ag ng cg, .int .i64 (0), .slice Ag' ng' cg', .int .i64 (0)] 25)).heap.size := by simp
      generalize w7.alloc (.cells #[.slice Ag ng cg, .int .i64 (0), .slice Ag' ng' cg', .int .i64 (0)] 25) = w8 at *
      have vxl := Bx.out.lt
      have vx0 := (Bx.out.2 0 _ rfl).1
      have vx1 := (Bx.out.2 1 _ rfl).1
      have vyl := By.out.lt
      have vy0 := (By.out.2 0 _ rfl).1
      have vy1 := (By.out.2 1 _ rfl).1
      go_wp2_with fail
      refine (equalPlain_same x1.out y1.out (by omega) (by omega)).mono ?_
      clear vxl vx0 vx1 vyl vy0 vy1
      rintro e w9 ⟨rfl, hb⟩
      (try simp only [World.size_alloc, World.size_setCell, World.size_drew] at hb)
      have HB := Lib.hid hb
      clear hb
      have s9 := HB.out.size
      (try simp only [World.size_alloc, World.size_setCell, World.size_drew] at s9)
      replace d1 := Lib.hid (d1.out.below HB.out (by omega))
      replace Bd := Lib.hid (Bd.out.below HB.out (by omega))
      replace l1 := Lib.hid (l1.out.below HB.out (by omega))
      replace x1 := Lib.hid (x1.out.below HB.out (by omega))
      replace Bx := Lib.hid (Bx.out.below HB.out (by omega))
      replace m1 := Lib.hid (m1.out.below HB.out (by omega))
      replace y1 := Lib.hid (y1.out.below HB.out (by omega))
      replace By := Lib.hid (By.out.below HB.out (by omega))
      replace g1 := Lib.hid (g1.out.below HB.out (by omega))
      replace g2 := Lib.hid (g2.out.below HB.out (by omega))
      replace Bg := Lib.hid (Bg.out.below HB.out (by omega))
      replace EB := Lib.hid (below_step HB.out EB.out (by omega))
      clear HB
      go_wp2_with fail
      refine (equalInts_same l1.out m1.out rfl).mono ?_
      rintro e w10 ⟨rfl, hb⟩
      (try simp only [World.size_alloc, World.size_setCell, World.size_drew] at hb)
      have HB := Lib.hid hb
      clear hb
      have s10 := HB.out.size
      (try simp only [World.size_alloc, World.size_setCell, World.size_drew] at s10)
      replace d1 := Lib.hid (d1.out.below HB.out (by omega))
      replace Bd := Lib.hid (Bd.out.below HB.out (by omega))
      replace l1 := Lib.hid (l1.out.below HB.out (by omega))
      replace x1 := Lib.hid (x1.out.below HB.out (by omega))
      replace Bx := Lib.hid (Bx.out.below HB.out (by omega))
      replace m1 := Lib.hid (m1.out.below HB.out (by omega))
      replace y1 := Lib.hid (y1.out.below HB.out (by omega))
      replace By := Lib.hid (By.out.below HB.out (by omega))
      replace g1 := Lib.hid (g1.out.below HB.out (by omega))
      replace g2 := Lib.hid (g2.out.below HB.out (by omega))
      replace Bg := Lib.hid (Bg.out.below HB.out (by omega))
      replace EB := Lib.hid (below_step HB.out EB.out (by omega))
      clear HB
      by_cases h1 : zn < 0
      · have vdl := Bd.out.lt
        have vd0 := (Bd.out.2 0 _ rfl).1
        have vd1 := (Bd.out.2 1 _ rfl).1
        have vxl := Bx.out.lt
        have vx0 := (Bx.out.2 0 _ rfl).1
        have vx1 := (Bx.out.2 1 _ rfl).1
        have vyl := By.out.lt
        have vy0 := (By.out.2 0 _ rfl).1
        have vy1 := (By.out.2 1 _ rfl).1
        go_wp2_with fail
        refine (equalPlain_same x1.out y1.out (by omega) (by omega)).mono ?_
        clear vdl vd0 vd1 vxl vx0 vx1 vyl vy0 vy1
        rintro e w11 ⟨rfl, hb⟩
        (try simp only [World.size_alloc, World.size_setCell, World.size_drew] at hb)
        have HB := Lib.hid hb
        clear hb
        have s11 := HB.out.size
        (try simp only [World.size_alloc, World.size_setCell, World.size_drew] at s11)
        replace d1 := Lib.hid (d1.out.below HB.out (by omega))
        replace Bd := Lib.hid (Bd.out.below HB.out (by omega))
        replace l1 := Lib.hid (l1.out.below HB.out (by omega))
        replace x1 := Lib.hid (x1.out.below HB.out (by omega))
        replace Bx := Lib.hid (Bx.out.below HB.out (by omega))
        replace m1 := Lib.hid (m1.out.below HB.out (by omega))
        replace y1 := Lib.hid (y1.out.below HB.out (by omega))
        replace By := Lib.hid (By.out.below HB.out (by omega))
        replace g1 := Lib.hid (g1.out.below HB.out (by omega))
        replace g2 := Lib.hid (g2.out.below HB.out (by omega))
        replace Bg := Lib.hid (Bg.out.below HB.out (by omega))
        replace EB := Lib.hid (below_step HB.out EB.out (by omega))
        clear HB
        go_wp2_with fail
        refine (equalInts_same l1.out m1.out rfl).mono ?_
        rintro e w12 ⟨rfl, hb⟩
        (try simp only [World.size_alloc, World.size_setCell, World.size_drew] at hb)
        have HB := Lib.hid hb
        clear hb
        have s12 := HB.out.size
        (try simp only [World.size_alloc, World.size_setCell, World.size_drew] at s12)
        replace d1 := Lib.hid (d1.out.below HB.out (by omega))
        replace Bd := Lib.hid (Bd.out.below HB.out (by omega))
        replace l1 := Lib.hid (l1.out.below HB.out (by omega))
        replace x1 := Lib.hid (x1.out.below HB.out (by omega))
        replace Bx := Lib.hid (Bx.out.below HB.out (by omega))
        replace m1 := Lib.hid (m1.out.below HB.out (by omega))
        replace y1 := Lib.hid (y1.out.below HB.out (by omega))
        replace By := Lib.hid (By.out.below HB.out (by omega))
        replace g1 := Lib.hid (g1.out.below HB.out (by omega))
        replace g2 := Lib.hid (g2.out.below HB.out (by omega))
        replace Bg := Lib.hid (Bg.out.below HB.out (by omega))
        replace EB := Lib.hid (below_step HB.out EB.out (by omega))
        clear HB
        go_wp2
        go_ret
        exact ⟨rfl, EB.out⟩
      · have hn1 : ¬ zn < 0 := by omega
        have hd1 : decide (zn < 0) = false := by simp; omega
        by_cases h2 : 60 < zn
        · have vdl := Bd.out.lt
          have vd0 := (Bd.out.2 0 _ rfl).1
          have vd1 := (Bd.out.2 1 _ rfl).1
          have vxl := Bx.out.lt
          have vx0 := (Bx.out.2 0 _ rfl).1
          have vx1 := (Bx.out.2 1 _ rfl).1
          have vyl := By.out.lt
          have vy0 := (By.out.2 0 _ rfl).1
          have vy1 := (By.out.2 1 _ rfl).1
          go_wp2_with fail
          refine (equalPlain_same x1.out y1.out (by omega) (by omega)).mono ?_
          clear vdl vd0 vd1 vxl vx0 vx1 vyl vy0 vy1
          rintro e w11 ⟨rfl, hb⟩
          (try simp only [World.size_alloc, World.size_setCell, World.size_drew] at hb)
          have HB := Lib.hid hb
          clear hb
          have s11 := HB.out.size
          (try simp only [World.size_alloc, World.size_setCell, World.size_drew] at s11)
          replace d1 := Lib.hid (d1.out.below HB.out (by omega))
          replace Bd := Lib.hid (Bd.out.below HB.out (by omega))
          replace l1 := Lib.hid (l1.out.below HB.out (by omega))
          replace x1 := Lib.hid (x1.out.below HB.out (by omega))
          replace Bx := Lib.hid (Bx.out.below HB.out (by omega))
          replace m1 := Lib.hid (m1.out.below HB.out (by omega))
          replace y1 := Lib.hid (y1.out.below HB.out (by omega))
          replace By := Lib.hid (By.out.below HB.out (by omega))
          replace g1 := Lib.hid (g1.out.below HB.out (by omega))
          replace g2 := Lib.hid (g2.out.below HB.out (by omega))
          replace Bg := Lib.hid (Bg.out.below HB.out (by omega))
          replace EB := Lib.hid (below_step HB.out EB.out (by omega))
          clear HB
          go_wp2_with fail
          refine (equalInts_same l1.out m1.out rfl).mono ?_
          rintro e w12 ⟨rfl, hb⟩
          (try simp only [World.size_alloc, World.size_setCell, World.size_drew] at hb)
          have HB := Lib.hid hb
          clear hb
          have s12 := HB.out.size
          (try simp only [World.size_alloc, World.size_setCell, World.size_drew] at s12)
          replace d1 := Lib.hid (d1.out.below HB.out (by omega))
          replace Bd := Lib.hid (Bd.out.below HB.out (by omega))
          replace l1 := Lib.hid (l1.out.below HB.out (by omega))
          replace x1 := Lib.hid (x1.out.below HB.out (by omega))
          replace Bx := Lib.hid (Bx.out.below HB.out (by omega))
          replace m1 := Lib.hid (m1.out.below HB.out (by omega))
          replace y1 := Lib.hid (y1.out.below HB.out (by omega))
          replace By := Lib.hid (By.out.below HB.out (by omega))
          replace g1 := Lib.hid (g1.out.below HB.out (by omega))
          replace g2 := Lib.hid (g2.out.below HB.out (by omega))
          replace Bg := Lib.hid (Bg.out.below HB.out (by omega))
          replace EB := Lib.hid (below_step HB.out EB.out (by omega))
          clear HB
          go_wp2
          go_ret
          exact ⟨rfl, EB.out⟩
        · have hn2 : ¬ 60 < zn := by omega
          have hd2 : decide (60 < zn) = false := by simp; omega
          have vdl := Bd.out.lt
          have vd0 := (Bd.out.2 0 _ rfl).1
          have vd1 := (Bd.out.2 1 _ rfl).1
          have vxl := Bx.out.lt
          have vx0 := (Bx.out.2 0 _ rfl).1
          have vx1 := (Bx.out.2 1 _ rfl).1
          have vyl := By.out.lt
          have vy0 := (By.out.2 0 _ rfl).1
          have vy1 := (By.out.2 1 _ rfl).1
          go_wp2_with fail
          refine (equalPlain_same x1.out y1.out (by omega) (by omega)).mono ?_
          clear vdl vd0 vd1 vxl vx0 vx1 vyl vy0 vy1
          rintro e w11 ⟨rfl, hb⟩
          (try simp only [World.size_alloc, World.size_setCell, World.size_drew] at hb)
          have HB := Lib.hid hb
          clear hb
          have s11 := HB.out.size
          (try simp only [World.size_alloc, World.size_setCell, World.size_drew] at s11)
          replace d1 := Lib.hid (d1.out.below HB.out (by omega))
          replace Bd := Lib.hid (Bd.out.below HB.out (by omega))
          replace l1 := Lib.hid (l1.out.below HB.out (by omega))
          replace x1 := Lib.hid (x1.out.below HB.out (by omega))
          replace Bx := Lib.hid (Bx.out.below HB.out (by omega))
          replace m1 := Lib.hid (m1.out.below HB.out (by omega))
          replace y1 := Lib.hid (y1.out.below HB.out (by omega))
          replace By := Lib.hid (By.out.below HB.out (by omega))
          replace g1 := Lib.hid (g1.out.below HB.out (by omega))
          replace g2 := Lib.hid (g2.out.below HB.out (by omega))
          replace Bg := Lib.hid (Bg.out.below HB.out (by omega))
          replace EB := Lib.hid (below_step HB.out EB.out (by omega))
          clear HB
          go_wp2_with fail
          refine (equalInts_same l1.out m1.out rfl).mono ?_
          rintro e w12 ⟨rfl, hb⟩
          (try simp only [World.size_alloc, World.size_setCell, World.size_drew] at hb)
          have HB := Lib.hid hb
          clear hb
          have s12 := HB.out.size
          (try simp only [World.size_alloc, World.size_setCell, World.size_drew] at s12)
          replace d1 := Lib.hid (d1.out.below HB.out (by omega))
          replace Bd := Lib.hid (Bd.out.below HB.out (by omega))
          replace l1 := Lib.hid (l1.out.below HB.out (by omega))
          replace x1 := Lib.hid (x1.out.below HB.out (by omega))
          replace Bx := Lib.hid (Bx.out.below HB.out (by omega))
          replace m1 := Lib.hid (m1.out.below HB.out (by omega))
          replace y1 := Lib.hid (y1.out.below HB.out (by omega))
          replace By := Lib.hid (By.out.below HB.out (by omega))
          replace g1 := Lib.hid (g1.out.below HB.out (by omega))
          replace g2 := Lib.hid (g2.out.below HB.out (by omega))
          replace Bg := Lib.hid (Bg.out.below HB.out (by omega))
          replace EB := Lib.hid (below_step HB.out EB.out (by omega))
          clear HB
          go_wp2
          go_ret
          exact ⟨rfl, EB.out⟩
    · refine (to_db (NewDevice_x d1.out (Ints.nil _ 0 0 0 none).1 (by omega) (by omega) hcd (Nat.le_refl _) (by omega) (by omega)) (new_yes hb0)).mono ?_
      rintro e w7 ⟨Ag, ng, cg, Ag', ng', cg', rfl, ⟨hcg, hcg'⟩, hb, ⟨hd, hd', _, _, _⟩⟩
      (try simp only [World.size_alloc, World.size_setCell, World.size_drew] at hb)
      have HB := Lib.hid hb
      clear hb
      have s7 := HB.out.size
      (try simp only [World.size_alloc, World.size_setCell, World.size_drew] at s7)
      replace d1 := Lib.hid (d1.out.below HB.out (by omega))
      replace Bd := Lib.hid (Bd.out.below HB.out (by omega))
      replace l1 := Lib.hid (l1.out.below HB.out (by omega))
      replace x1 := Lib.hid (x1.out.below HB.out (by omega))
      replace Bx := Lib.hid (Bx.out.below HB.out (by omega))
      replace m1 := Lib.hid (m1.out.below HB.out (by omega))
      replace y1 := Lib.hid (y1.out.below HB.out (by omega))
      replace By := Lib.hid (By.out.below HB.out (by omega))
      replace EB := Lib.hid (below_step HB.out EB.out (by omega))
      clear HB
      have g1 := Lib.hid hd
      have g2 := Lib.hid hd'
      clear hd hd'
      have vdl := Bd.out.lt
      have vd0 := (Bd.out.2 0 _ rfl).1
      have vd1 := (Bd.out.2 1 _ rfl).1
      have vxl := Bx.out.lt
      have vx0 := (Bx.out.2 0 _ rfl).1
      have vx1 := (Bx.out.2 1 _ rfl).1
      have vyl := By.out.lt
      have vy0 := (By.out.2 0 _ rfl).1
      have vy1 := (By.out.2 1 _ rfl).1
      go_wp2_with fail
      clear vdl vd0 vd1 vxl vx0 vx1 vyl vy0 vy1
      replace d1 := Lib.hid (d1.out.alloc (by omega) (.cells #[.slice Ag ng cg, .int .i64 (0), .slice Ag' ng' cg', .int .i64 (0)] 25))
      replace Bd := Lib.hid (Bd.out.alloc (.cells #[.slice Ag ng cg, .int .i64 (0), .slice Ag' ng' cg', .int .i64 (0)] 25))
      replace l1 := Lib.hid (l1.out.alloc (by omega) (.cells #[.slice Ag ng cg, .int .i64 (0), .slice Ag' ng' cg', .int .i64 (0)] 25))
      replace x1 := Lib.hid (x1.out.alloc (by omega) (.cells #[.slice Ag ng cg, .int .i64 (0), .slice Ag' ng' cg', .int .i64 (0)] 25))
      replace Bx := Lib.hid (Bx.out.alloc (.cells #[.slice Ag ng cg, .int .i64 (0), .slice Ag' ng' cg', .int .i64 (0)] 25))
      replace m1 := Lib.hid (m1.out.alloc (by omega) (.cells #[.slice Ag ng cg, .int .i64 (0), .slice Ag' ng' cg', .int .i64 (0)] 25))
      replace y1 := Lib.hid (y1.out.alloc (by omega) (.cells #[.slice Ag ng cg, .int .i64 (0), .slice Ag' ng' cg', .int .i64 (0)] 25))
      replace By := Lib.hid (By.out.alloc (.cells #[.slice Ag ng cg, .int .i64 (0), .slice Ag' ng' cg', .int .i64 (0)] 25))
      replace g1 := Lib.hid (g1.out.alloc (by omega) (.cells #[.slice Ag ng cg, .int .i64 (0), .slice Ag' ng' cg', .int .i64 (0)] 25))
      replace g2 := Lib.hid (g2.out.alloc (by omega) (.cells #[.slice Ag ng cg, .int .i64 (0), .slice Ag' ng' cg', .int .i64 (0)] 25))
      replace EB := Lib.hid (EB.out.alloc (by omega) (.cells #[.slice Ag ng cg, .int .i64 (0), .slice Ag' ng' cg', .int .i64 (0)] 25))
      have Bg := Lib.hid (Box.new w7 25 [.slice Ag ng cg, .int .i64 (0), .slice Ag' ng' cg', .int .i64 (0)])
      have s8 : w7.heap.size + 1 ≤ (w7.alloc (.cells #[.slice Ag ng cg, .int .i64 (0), .slice Ag' ng' cg', .int .i64 (0)] 25)).heap.size := by simp
      generalize w7.alloc (.cells #[.slice Ag ng cg, .int .i64 (0), .slice Ag' ng' cg', .int .i64 (0)] 25) = w8 at *
      have vxl := Bx.out.lt
      have vx0 := (Bx.out.2 0 _ rfl).1
      have vx1 := (Bx.out.2 1 _ rfl).1
      have vyl := By.out.lt
      have vy0 := (By.out.2 0 _ rfl).1
      have vy1 := (By.out.2 1 _ rfl).1
      go_wp2_with fail
      refine (equalPlain_same x1.out y1.out (by omega) (by omega)).mono ?_
      clear vxl vx0 vx1 vyl vy0 vy1
      rintro e w9 ⟨rfl, hb⟩
      (try simp only [World.size_alloc, World.size_setCell, World.size_drew] at hb)
      have HB := Lib.hid hb
      clear hb
      have s9 := HB.out.size
      (try simp only [World.size_alloc, World.size_setCell, World.size_drew] at s9)
      replace d1 := Lib.hid (d1.out.below HB.out (by omega))
      replace Bd := Lib.hid (Bd.out.below HB.out (by omega))
      replace l1 := Lib.hid (l1.out.below HB.out (by omega))
      replace x1 := Lib.hid (x1.out.below HB.out (by omega))
      replace Bx := Lib.hid (Bx.out.below HB.out (by omega))
      replace m1 := Lib.hid (m1.out.below HB.out (by omega))
      replace y1 := Lib.hid (y1.out.below HB.out (by omega))
      replace By := Lib.hid (By.out.below HB.out (by omega))
      replace g1 := Lib.hid (g1.out.below HB.out (by omega))
      replace g2 := Lib.hid (g2.out.below HB.out (by omega))
      replace Bg := Lib.hid (Bg.out.below HB.out (by omega))
      replace EB := Lib.hid (below_step HB.out EB.out (by omega))
      clear HB
      go_wp2_with fail
      refine (equalInts_same l1.out m1.out rfl).mono ?_
      rintro e w10 ⟨rfl, hb⟩
      (try simp only [World.size_alloc, World.size_setCell, World.size_drew] at hb)
      have HB := Lib.hid hb
      clear hb
      have s10 := HB.out.size
      (try simp only [World.size_alloc, World.size_setCell, World.size_drew] at s10)
      replace d1 := Lib.hid (d1.out.below HB.out (by omega))
      replace Bd := Lib.hid (Bd.out.below HB.out (by omega))
      replace l1 := Lib.hid (l1.out.below HB.out (by omega))
      replace x1 := Lib.hid (x1.out.below HB.out (by omega))
      replace Bx := Lib.hid (Bx.out.below HB.out (by omega))
      replace m1 := Lib.hid (m1.out.below HB.out (by omega))
      replace y1 := Lib.hid (y1.out.below HB.out (by omega))
      replace By := Lib.hid (By.out.below HB.out (by omega))
      replace g1 := Lib.hid (g1.out.below HB.out (by omega))
      replace g2 := Lib.hid (g2.out.below HB.out (by omega))
      replace Bg := Lib.hid (Bg.out.below HB.out (by omega))
      replace EB := Lib.hid (below_step HB.out EB.out (by omega))
      clear HB
      have hbb : bytesB Dd = true := (validD_iff.1 hb0).1
      have hor : zn < 0 ∨ 60 < zn ∨ pd < 0 ∨ 60 < pd := by cases hP : validP Dd pd with | false => (simp only [validP, hbb, inB] at hP; simp at hP; omega) | true => (rw [hP] at hg; simp [inB] at hg; omega)
      by_cases h1 : zn < 0
      · have vdl := Bd.out.lt
        have vd0 := (Bd.out.2 0 _ rfl).1
        have vd1 := (Bd.out.2 1 _ rfl).1
        have vxl := Bx.out.lt
        have vx0 := (Bx.out.2 0 _ rfl).1
        have vx1 := (Bx.out.2 1 _ rfl).1
        have vyl := By.out.lt
        have vy0 := (By.out.2 0 _ rfl).1
        have vy1 := (By.out.2 1 _ rfl).1
        go_wp2_with fail
        refine (equalPlain_same x1.out y1.out (by omega) (by omega)).mono ?_
        clear vdl vd0 vd1 vxl vx0 vx1 vyl vy0 vy1
        rintro e w11 ⟨rfl, hb⟩
        (try simp only [World.size_alloc, World.size_setCell, World.size_drew] at hb)
        have HB := Lib.hid hb
        clear hb
        have s11 := HB.out.size
        (try simp only [World.size_alloc, World.size_setCell, World.size_drew] at s11)
        replace d1 := Lib.hid (d1.out.below HB.out (by omega))
        replace Bd := Lib.hid (Bd.out.below HB.out (by omega))
        replace l1 := Lib.hid (l1.out.below HB.out (by omega))
        replace x1 := Lib.hid (x1.out.below HB.out (by omega))
        replace Bx := Lib.hid (Bx.out.below HB.out (by omega))
        replace m1 := Lib.hid (m1.out.below HB.out (by omega))
        replace y1 := Lib.hid (y1.out.below HB.out (by omega))
        replace By := Lib.hid (By.out.below HB.out (by omega))
        replace g1 := Lib.hid (g1.out.below HB.out (by omega))
        replace g2 := Lib.hid (g2.out.below HB.out (by omega))
        replace Bg := Lib.hid (Bg.out.below HB.out (by omega))
        replace EB := Lib.hid (below_step HB.out EB.out (by omega))
        clear HB
        go_wp2_with fail
        refine (equalInts_same l1.out m1.out rfl).mono ?_
        rintro e w12 ⟨rfl, hb⟩
        (try simp only [World.size_alloc, World.size_setCell, World.size_drew] at hb)
        have HB := Lib.hid hb
        clear hb
        have s12 := HB.out.size
        (try simp only [World.size_alloc, World.size_setCell, World.size_drew] at s12)
        replace d1 := Lib.hid (d1.out.below HB.out (by omega))
        replace Bd := Lib.hid (Bd.out.below HB.out (by omega))
        replace l1 := Lib.hid (l1.out.below HB.out (by omega))
        replace x1 := Lib.hid (x1.out.below HB.out (by omega))
        replace Bx := Lib.hid (Bx.out.below HB.out (by omega))
        replace m1 := Lib.hid (m1.out.below HB.out (by omega))
        replace y1 := Lib.hid (y1.out.below HB.out (by omega))
        replace By := Lib.hid (By.out.below HB.out (by omega))
        replace g1 := Lib.hid (g1.out.below HB.out (by omega))
        replace g2 := Lib.hid (g2.out.below HB.out (by omega))
        replace Bg := Lib.hid (Bg.out.below HB.out (by omega))
        replace EB := Lib.hid (below_step HB.out EB.out (by omega))
        clear HB
        go_wp2
        go_ret
        exact ⟨rfl, EB.out⟩
      · have hn1 : ¬ zn < 0 := by omega
        have hd1 : decide (zn < 0) = false := by simp; omega
        by_cases h2 : 60 < zn
        · have vdl := Bd.out.lt
          have vd0 := (Bd.out.2 0 _ rfl).1
          have vd1 := (Bd.out.2 1 _ rfl).1
          have vxl := Bx.out.lt
          have vx0 := (Bx.out.2 0 _ rfl).1
          have vx1 := (Bx.out.2 1 _ rfl).1
          have vyl := By.out.lt
          have vy0 := (By.out.2 0 _ rfl).1
          have vy1 := (By.out.2 1 _ rfl).1
          go_wp2_with fail
          refine (equalPlain_same x1.out y1.out (by omega) (by omega)).mono ?_
          clear vdl vd0 vd1 vxl vx0 vx1 vyl vy0 vy1
          rintro e w11 ⟨rfl, hb⟩
          (try simp only [World.size_alloc, World.size_setCell, World.size_drew] at hb)
          have HB := Lib.hid hb
          clear hb
          have s11 := HB.out.size
          (try simp only [World.size_alloc, World.size_setCell, World.size_drew] at s11)
          replace d1 := Lib.hid (d1.out.below HB.out (by omega))
          replace Bd := Lib.hid (Bd.out.below HB.out (by omega))
          replace l1 := Lib.hid (l1.out.below HB.out (by omega))
          replace x1 := Lib.hid (x1.out.below HB.out (by omega))
          replace Bx := Lib.hid (Bx.out.below HB.out (by omega))
          replace m1 := Lib.hid (m1.out.below HB.out (by omega))
          replace y1 := Lib.hid (y1.out.below HB.out (by omega))
          replace By := Lib.hid (By.out.below HB.out (by omega))
          replace g1 := Lib.hid (g1.out.below HB.out (by omega))
          replace g2 := Lib.hid (g2.out.below HB.out (by omega))
          replace Bg := Lib.hid (Bg.out.below HB.out (by omega))
          replace EB := Lib.hid (below_step HB.out EB.out (by omega))
          clear HB
          go_wp2_with fail
          refine (equalInts_same l1.out m1.out rfl).mono ?_
          rintro e w12 ⟨rfl, hb⟩
          (try simp only [World.size_alloc, World.size_setCell, World.size_drew] at hb)
          have HB := Lib.hid hb
          clear hb
          have s12 := HB.out.size
          (try simp only [World.size_alloc, World.size_setCell, World.size_drew] at s12)
          replace d1 := Lib.hid (d1.out.below HB.out (by omega))
          replace Bd := Lib.hid (Bd.out.below HB.out (by omega))
          replace l1 := Lib.hid (l1.out.below HB.out (by omega))
          replace x1 := Lib.hid (x1.out.below HB.out (by omega))
          replace Bx := Lib.hid (Bx.out.below HB.out (by omega))
          replace m1 := Lib.hid (m1.out.below HB.out (by omega))
          replace y1 := Lib.hid (y1.out.below HB.out (by omega))
          replace By := Lib.hid (By.out.below HB.out (by omega))
          replace g1 := Lib.hid (g1.out.below HB.out (by omega))
          replace g2 := Lib.hid (g2.out.below HB.out (by omega))
          replace Bg := Lib.hid (Bg.out.below HB.out (by omega))
          replace EB := Lib.hid (below_step HB.out EB.out (by omega))
          clear HB
          go_wp2
          go_ret
          exact ⟨rfl, EB.out⟩
        · have hn2 : ¬ 60 < zn := by omega
          have hd2 : decide (60 < zn) = false := by simp; omega
          by_cases h3 : pd < 0
          · have vdl := Bd.out.lt
            have vd0 := (Bd.out.2 0 _ rfl).1
            have vd1 := (Bd.out.2 1 _ rfl).1
            have vxl := Bx.out.lt
            have vx0 := (Bx.out.2 0 _ rfl).1
            have vx1 := (Bx.out.2 1 _ rfl).1
            have vyl := By.out.lt
            have vy0 := (By.out.2 0 _ rfl).1
            have vy1 := (By.out.2 1 _ rfl).1
            go_wp2_with fail
            refine (equalPlain_same x1.out y1.out (by omega) (by omega)).mono ?_
            clear vdl vd0 vd1 vxl vx0 vx1 vyl vy0 vy1
            rintro e w11 ⟨rfl, hb⟩
            (try simp only [World.size_alloc, World.size_setCell, World.size_drew] at hb)
            have HB := Lib.hid hb
            clear hb
            have s11 := HB.out.size
            (try simp only [World.size_alloc, World.size_setCell, World.size_drew] at s11)
            replace d1 := Lib.hid (d1.out.below HB.out (by omega))
            replace Bd := Lib.hid (Bd.out.below HB.out (by omega))
            replace l1 := Lib.hid (l1.out.below HB.out (by omega))
            replace x1 := Lib.hid (x1.out.below HB.out (by omega))
            replace Bx := Lib.hid (Bx.out.below HB.out (by omega))
            replace m1 := Lib.hid (m1.out.below HB.out (by omega))
            replace y1 := Lib.hid (y1.out.below HB.out (by omega))
            replace By := Lib.hid (By.out.below HB.out (by omega))
            replace g1 := Lib.hid (g1.out.below HB.out (by omega))
            replace g2 := Lib.hid (g2.out.below HB.out (by omega))
            replace Bg := Lib.hid (Bg.out.below HB.out (by omega))
            replace EB := Lib.hid (below_step HB.out EB.out (by omega))
            clear HB
            go_wp2_with fail
            refine (equalInts_same l1.out m1.out rfl).mono ?_
            rintro e w12 ⟨rfl, hb⟩
            (try simp only [World.size_alloc, World.size_setCell, World.size_drew] at hb)
            have HB := Lib.hid hb
            clear hb
            have s12 := HB.out.size
            (try simp only [World.size_alloc, World.size_setCell, World.size_drew] at s12)
            replace d1 := Lib.hid (d1.out.below HB.out (by omega))
            replace Bd := Lib.hid (Bd.out.below HB.out (by omega))
            replace l1 := Lib.hid (l1.out.below HB.out (by omega))
            replace x1 := Lib.hid (x1.out.below HB.out (by omega))
            replace Bx := Lib.hid (Bx.out.below HB.out (by omega))
            replace m1 := Lib.hid (m1.out.below HB.out (by omega))
            replace y1 := Lib.hid (y1.out.below HB.out (by omega))
            replace By := Lib.hid (By.out.below HB.out (by omega))
            replace g1 := Lib.hid (g1.out.below HB.out (by omega))
            replace g2 := Lib.hid (g2.out.below HB.out (by omega))
            replace Bg := Lib.hid (Bg.out.below HB.out (by omega))
            replace EB := Lib.hid (below_step HB.out EB.out (by omega))
            clear HB
            go_wp2
            go_ret
            exact ⟨rfl, EB.out⟩
          · have hn3 : ¬ pd < 0 := by omega
            have hd3 : decide (pd < 0) = false := by simp; omega
            have h4 : 60 < pd := by omega
            clear hor
            have vdl := Bd.out.lt
            have vd0 := (Bd.out.2 0 _ rfl).1
            have vd1 := (Bd.out.2 1 _ rfl).1
            have vxl := Bx.out.lt
            have vx0 := (Bx.out.2 0 _ rfl).1
            have vx1 := (Bx.out.2 1 _ rfl).1
            have vyl := By.out.lt
            have vy0 := (By.out.2 0 _ rfl).1
            have vy1 := (By.out.2 1 _ rfl).1
            go_wp2_with fail
            refine (equalPlain_same x1.out y1.out (by omega) (by omega)).mono ?_
            clear vdl vd0 vd1 vxl vx0 vx1 vyl vy0 vy1
            rintro e w11 ⟨rfl, hb⟩
            (try simp only [World.size_alloc, World.size_setCell, World.size_drew] at hb)
            have HB := Lib.hid hb
            clear hb
            have s11 := HB.out.size
            (try simp only [World.size_alloc, World.size_setCell, World.size_drew] at s11)
            replace d1 := Lib.hid (d1.out.below HB.out (by omega))
            replace Bd := Lib.hid (Bd.out.below HB.out (by omega))
            replace l1 := Lib.hid (l1.out.below HB.out (by omega))
            replace x1 := Lib.hid (x1.out.below HB.out (by omega))
            replace Bx := Lib.hid (Bx.out.below HB.out (by omega))
            replace m1 := Lib.hid (m1.out.below HB.out (by omega))
            replace y1 := Lib.hid (y1.out.below HB.out (by omega))
            replace By := Lib.hid (By.out.below HB.out (by omega))
            replace g1 := Lib.hid (g1.out.below HB.out (by omega))
            replace g2 := Lib.hid (g2.out.below HB.out (by omega))
            replace Bg := Lib.hid (Bg.out.below HB.out (by omega))
            replace EB := Lib.hid (below_step HB.out EB.out (by omega))
            clear HB
            go_wp2_with fail
            refine (equalInts_same l1.out m1.out rfl).mono ?_
            rintro e w12 ⟨rfl, hb⟩
            (try simp only [World.size_alloc, World.size_setCell, World.size_drew] at hb)
            have HB := Lib.hid hb
            clear hb
            have s12 := HB.out.size
            (try simp only [World.size_alloc, World.size_setCell, World.size_drew] at s12)
            replace d1 := Lib.hid (d1.out.below HB.out (by omega))
            replace Bd := Lib.hid (Bd.out.below HB.out (by omega))
            replace l1 := Lib.hid (l1.out.below HB.out (by omega))
            replace x1 := Lib.hid (x1.out.below HB.out (by omega))
            replace Bx := Lib.hid (Bx.out.below HB.out (by omega))
            replace m1 := Lib.hid (m1.out.below HB.out (by omega))
            replace y1 := Lib.hid (y1.out.below HB.out (by omega))
            replace By := Lib.hid (By.out.below HB.out (by omega))
            replace g1 := Lib.hid (g1.out.below HB.out (by omega))
            replace g2 := Lib.hid (g2.out.below HB.out (by omega))
            replace Bg := Lib.hid (Bg.out.below HB.out (by omega))
            replace EB := Lib.hid (below_step HB.out EB.out (by omega))
            clear HB
            go_wp2
            go_ret
            exact ⟨rfl, EB.out⟩
  · obtain ⟨m, hm, hm60, ho, hP, hzz, hvx⟩ := pr_yes hg
    have hp0 := (validP_iff.1 hP).2
    have hb0 : validD Dd 0 [] 0 = true := by have h1 := validD_iff.1 hvx; exact validD_iff.2 ⟨h1.1, h1.2.1, h1.2.2.1, by omega, by omega⟩
    have HVX := Lib.hid hvx
    have HM := Lib.hid hm
    have HO := Lib.hid ho
    have HB0 := Lib.hid hb0
    clear hvx hm ho hb0 hg hP
    have vdl := Bd.out.lt
    have vd0 := (Bd.out.2 0 _ rfl).1
    have vd1 := (Bd.out.2 1 _ rfl).1
    go_wp2_with fail
    refine (to_pl (PlainRead_x d1.out (by omega) hcd (by omega) (by unfold okInt; omega)) HO.out).mono ?_
    clear vdl vd0 vd1
    rintro e w3 ⟨Ax, nx, cx, Al, nl, cl, rfl, ⟨hcx, hcl⟩, hb, hd, hl⟩
    (try simp only [World.size_alloc, World.size_setCell, World.size_drew] at hb)
    have HB := Lib.hid hb
    clear hb
    have s3 := HB.out.size
    (try simp only [World.size_alloc, World.size_setCell, World.size_drew] at s3)
    replace d1 := Lib.hid (d1.out.below HB.out (by omega))
    replace Bd := Lib.hid (Bd.out.below HB.out (by omega))
    replace EB := Lib.hid (below_step HB.out EB.out (by omega))
    clear HB
    have l1 := Lib.hid hl
    have x1 := Lib.hid hd
    clear hd hl
    have hnx : nx ≤ 1048576 := by have h1 := x1.out.len; have h2 := d1.out.len; omega
    have vdl := Bd.out.lt
    have vd0 := (Bd.out.2 0 _ rfl).1
    have vd1 := (Bd.out.2 1 _ rfl).1
    go_wp2_with fail
    clear vdl vd0 vd1
    replace d1 := Lib.hid (d1.out.alloc (by omega) (.cells #[.slice Ax nx cx, .int .i64 (pd + (m : Int))] 35))
    replace Bd := Lib.hid (Bd.out.alloc (.cells #[.slice Ax nx cx, .int .i64 (pd + (m : Int))] 35))
    replace l1 := Lib.hid (l1.out.alloc (by omega) (.cells #[.slice Ax nx cx, .int .i64 (pd + (m : Int))] 35))
    replace x1 := Lib.hid (x1.out.alloc (by omega) (.cells #[.slice Ax nx cx, .int .i64 (pd + (m : Int))] 35))
    replace EB := Lib.hid (EB.out.alloc (by omega) (.cells #[.slice Ax nx cx, .int .i64 (pd + (m : Int))] 35))
    have Bx := Lib.hid (Box.new w3 35 [.slice Ax nx cx, .int .i64 (pd + (m : Int))])
    have s4 : w3.heap.size + 1 ≤ (w3.alloc (.cells #[.slice Ax nx cx, .int .i64 (pd + (m : Int))] 35)).heap.size := by simp
    generalize w3.alloc (.cells #[.slice Ax nx cx, .int .i64 (pd + (m : Int))] 35) = w4 at *
    refine (to_pl (SPlainRead_x d1.out (by omega) hcd (by omega) (by unfold okInt; omega)) HO.out).mono ?_
    rintro e w5 ⟨Ay, ny, cy, Am, nm, cm, rfl, ⟨hcy, hcm⟩, hb, hd, hl⟩
    (try simp only [World.size_alloc, World.size_setCell, World.size_drew] at hb)
    have HB := Lib.hid hb
    clear hb
    have s5 := HB.out.size
    (try simp only [World.size_alloc, World.size_setCell, World.size_drew] at s5)
    replace d1 := Lib.hid (d1.out.below HB.out (by omega))
    replace Bd := Lib.hid (Bd.out.below HB.out (by omega))
    replace l1 := Lib.hid (l1.out.below HB.out (by omega))
    replace x1 := Lib.hid (x1.out.below HB.out (by omega))
    replace Bx := Lib.hid (Bx.out.below HB.out (by omega))
    replace EB := Lib.hid (below_step HB.out EB.out (by omega))
    clear HB
    have m1 := Lib.hid hl
    have y1 := Lib.hid hd
    clear hd hl
    have hny : ny ≤ 1048576 := by have h1 := y1.out.len; have h2 := d1.out.len; omega
    have vdl := Bd.out.lt
    have vd0 := (Bd.out.2 0 _ rfl).1
    have vd1 := (Bd.out.2 1 _ rfl).1
    go_wp2_with fail
    clear vdl vd0 vd1
    replace d1 := Lib.hid (d1.out.alloc (by omega) (.cells #[.slice Ay ny cy, .int .i64 (pd + (m : Int))] 35))
    replace Bd := Lib.hid (Bd.out.alloc (.cells #[.slice Ay ny cy, .int .i64 (pd + (m : Int))] 35))
    replace l1 := Lib.hid (l1.out.alloc (by omega) (.cells #[.slice Ay ny cy, .int .i64 (pd + (m : Int))] 35))
    replace x1 := Lib.hid (x1.out.alloc (by omega) (.cells #[.slice Ay ny cy, .int .i64 (pd + (m : Int))] 35))
    replace Bx := Lib.hid (Bx.out.alloc (.cells #[.slice Ay ny cy, .int .i64 (pd + (m : Int))] 35))
    replace m1 := Lib.hid (m1.out.alloc (by omega) (.cells #[.slice Ay ny cy, .int .i64 (pd + (m : Int))] 35))
    replace y1 := Lib.hid (y1.out.alloc (by omega) (.cells #[.slice Ay ny cy, .int .i64 (pd + (m : Int))] 35))
    replace EB := Lib.hid (EB.out.alloc (by omega) (.cells #[.slice Ay ny cy, .int .i64 (pd + (m : Int))] 35))
    have By := Lib.hid (Box.new w5 35 [.slice Ay ny cy, .int .i64 (pd + (m : Int))])
    have s6 : w5.heap.size + 1 ≤ (w5.alloc (.cells #[.slice Ay ny cy, .int .i64 (pd + (m : Int))] 35)).heap.size := by simp
    generalize w5.alloc (.cells #[.slice Ay ny cy, .int .i64 (pd + (m : Int))] 35) = w6 at *
    refine (to_db (NewDevice_x d1.out (Ints.nil _ 0 0 0 none).1 (by omega) (by omega) hcd (Nat.le_refl _) (by omega) (by omega)) (new_yes HB0.out)).mono ?_
    rintro e w7 ⟨Ag, ng, cg, Ag', ng', cg', rfl, ⟨hcg, hcg'⟩, hb, ⟨hd, hd', _, _, _⟩⟩
    (try simp only [World.size_alloc, World.size_setCell, World.size_drew] at hb)
    have HB := Lib.hid hb
    clear hb
    have s7 := HB.out.size
    (try simp only [World.size_alloc, World.size_setCell, World.size_drew] at s7)
    replace d1 := Lib.hid (d1.out.below HB.out (by omega))
    replace Bd := Lib.hid (Bd.out.below HB.out (by omega))
    replace l1 := Lib.hid (l1.out.below HB.out (by omega))
    replace x1 := Lib.hid (x1.out.below HB.out (by omega))
    replace Bx := Lib.hid (Bx.out.below HB.out (by omega))
    replace m1 := Lib.hid (m1.out.below HB.out (by omega))
    replace y1 := Lib.hid (y1.out.below HB.out (by omega))
    replace By := Lib.hid (By.out.below HB.out (by omega))
    replace EB := Lib.hid (below_step HB.out EB.out (by omega))
    clear HB
    have g1 := Lib.hid hd
    have g2 := Lib.hid hd'
    clear hd hd'
    have vdl := Bd.out.lt
    have vd0 := (Bd.out.2 0 _ rfl).1
    have vd1 := (Bd.out.2 1 _ rfl).1
    have vxl := Bx.out.lt
    have vx0 := (Bx.out.2 0 _ rfl).1
    have vx1 := (Bx.out.2 1 _ rfl).1
    have vyl := By.out.lt
    have vy0 := (By.out.2 0 _ rfl).1
    have vy1 := (By.out.2 1 _ rfl).1
    go_wp2_with fail
    clear vdl vd0 vd1 vxl vx0 vx1 vyl vy0 vy1
    replace d1 := Lib.hid (d1.out.alloc (by omega) (.cells #[.slice Ag ng cg, .int .i64 (0), .slice Ag' ng' cg', .int .i64 (0)] 25))
    replace Bd := Lib.hid (Bd.out.alloc (.cells #[.slice Ag ng cg, .int .i64 (0), .slice Ag' ng' cg', .int .i64 (0)] 25))
    replace l1 := Lib.hid (l1.out.alloc (by omega) (.cells #[.slice Ag ng cg, .int .i64 (0), .slice Ag' ng' cg', .int .i64 (0)] 25))
    replace x1 := Lib.hid (x1.out.alloc (by omega) (.cells #[.slice Ag ng cg, .int .i64 (0), .slice Ag' ng' cg', .int .i64 (0)] 25))
    replace Bx := Lib.hid (Bx.out.alloc (.cells #[.slice Ag ng cg, .int .i64 (0), .slice Ag' ng' cg', .int .i64 (0)] 25))
    replace m1 := Lib.hid (m1.out.alloc (by omega) (.cells #[.slice Ag ng cg, .int .i64 (0), .slice Ag' ng' cg', .int .i64 (0)] 25))
    replace y1 := Lib.hid (y1.out.alloc (by omega) (.cells #[.slice Ag ng cg, .int .i64 (0), .slice Ag' ng' cg', .int .i64 (0)] 25))
    replace By := Lib.hid (By.out.alloc (.cells #[.slice Ag ng cg, .int .i64 (0), .slice Ag' ng' cg', .int .i64 (0)] 25))
    replace g1 := Lib.hid (g1.out.alloc (by omega) (.cells #[.slice Ag ng cg, .int .i64 (0), .slice Ag' ng' cg', .int .i64 (0)] 25))
    replace g2 := Lib.hid (g2.out.alloc (by omega) (.cells #[.slice Ag ng cg, .int .i64 (0), .slice Ag' ng' cg', .int .i64 (0)] 25))
    replace EB := Lib.hid (EB.out.alloc (by omega) (.cells #[.slice Ag ng cg, .int .i64 (0), .slice Ag' ng' cg', .int .i64 (0)] 25))
    have Bg := Lib.hid (Box.new w7 25 [.slice Ag ng cg, .int .i64 (0), .slice Ag' ng' cg', .int .i64 (0)])
    have s8 : w7.heap.size + 1 ≤ (w7.alloc (.cells #[.slice Ag ng cg, .int .i64 (0), .slice Ag' ng' cg', .int .i64 (0)] 25)).heap.size := by simp
    generalize w7.alloc (.cells #[.slice Ag ng cg, .int .i64 (0), .slice Ag' ng' cg', .int .i64 (0)] 25) = w8 at *
    have hlm : nl = m := by have h1 := l1.out.len; have h2 := HM.out; omega
    subst hlm
    have vxl := Bx.out.lt
    have vx0 := (Bx.out.2 0 _ rfl).1
    have vx1 := (Bx.out.2 1 _ rfl).1
    have vyl := By.out.lt
    have vy0 := (By.out.2 0 _ rfl).1
    have vy1 := (By.out.2 1 _ rfl).1
    go_wp2_with fail
    refine (equalPlain_same x1.out y1.out (by omega) (by omega)).mono ?_
    clear vxl vx0 vx1 vyl vy0 vy1
    rintro e w9 ⟨rfl, hb⟩
    (try simp only [World.size_alloc, World.size_setCell, World.size_drew] at hb)
    have HB := Lib.hid hb
    clear hb
    have s9 := HB.out.size
    (try simp only [World.size_alloc, World.size_setCell, World.size_drew] at s9)
    replace d1 := Lib.hid (d1.out.below HB.out (by omega))
    replace Bd := Lib.hid (Bd.out.below HB.out (by omega))
    replace l1 := Lib.hid (l1.out.below HB.out (by omega))
    replace x1 := Lib.hid (x1.out.below HB.out (by omega))
    replace Bx := Lib.hid (Bx.out.below HB.out (by omega))
    replace m1 := Lib.hid (m1.out.below HB.out (by omega))
    replace y1 := Lib.hid (y1.out.below HB.out (by omega))
    replace By := Lib.hid (By.out.below HB.out (by omega))
    replace g1 := Lib.hid (g1.out.below HB.out (by omega))
    replace g2 := Lib.hid (g2.out.below HB.out (by omega))
    replace Bg := Lib.hid (Bg.out.below HB.out (by omega))
    replace EB := Lib.hid (below_step HB.out EB.out (by omega))
    clear HB
    go_wp2_with fail
    refine (equalInts_same l1.out m1.out rfl).mono ?_
    rintro e w10 ⟨rfl, hb⟩
    (try simp only [World.size_alloc, World.size_setCell, World.size_drew] at hb)
    have HB := Lib.hid hb
    clear hb
    have s10 := HB.out.size
    (try simp only [World.size_alloc, World.size_setCell, World.size_drew] at s10)
    replace d1 := Lib.hid (d1.out.below HB.out (by omega))
    replace Bd := Lib.hid (Bd.out.below HB.out (by omega))
    replace l1 := Lib.hid (l1.out.below HB.out (by omega))
    replace x1 := Lib.hid (x1.out.below HB.out (by omega))
    replace Bx := Lib.hid (Bx.out.below HB.out (by omega))
    replace m1 := Lib.hid (m1.out.below HB.out (by omega))
    replace y1 := Lib.hid (y1.out.below HB.out (by omega))
    replace By := Lib.hid (By.out.below HB.out (by omega))
    replace g1 := Lib.hid (g1.out.below HB.out (by omega))
    replace g2 := Lib.hid (g2.out.below HB.out (by omega))
    replace Bg := Lib.hid (Bg.out.below HB.out (by omega))
    replace EB := Lib.hid (below_step HB.out EB.out (by omega))
    clear HB
    have hwm : IntKind.i64.wrap (-(nl : Int)) = -(nl : Int) := IntWalk.i64_in _ (by omega)
    clear y1 m1 By g1 g2 Bg
    have vdl := Bd.out.lt
    have vd0 := (Bd.out.2 0 _ rfl).1
    have vd1 := (Bd.out.2 1 _ rfl).1
    have vxl := Bx.out.lt
    have vx0 := (Bx.out.2 0 _ rfl).1
    have vx1 := (Bx.out.2 1 _ rfl).1
    go_wp2_with fail
    refine (to_pb (PlainSeek_x x1.out (by omega) hcx (by omega) (by unfold okInt; omega) (by unfold okInt; omega)) (ps_back HVX.out hp0.1)).mono ?_
    clear vdl vd0 vd1 vxl vx0 vx1
    rintro e w11 ⟨Ab, nb, cb, rfl, hcb, hb, hd⟩
    (try simp only [World.size_alloc, World.size_setCell, World.size_drew] at hb)
    have HB := Lib.hid hb
    clear hb
    have s11 := HB.out.size
    (try simp only [World.size_alloc, World.size_setCell, World.size_drew] at s11)
    replace d1 := Lib.hid (d1.out.below HB.out (by omega))
    replace Bd := Lib.hid (Bd.out.below HB.out (by omega))
    replace l1 := Lib.hid (l1.out.below HB.out (by omega))
    replace x1 := Lib.hid (x1.out.below HB.out (by omega))
    replace Bx := Lib.hid (Bx.out.below HB.out (by omega))
    replace EB := Lib.hid (below_step HB.out EB.out (by omega))
    clear HB
    have b1 := Lib.hid hd
    clear hd
    have hnb : nb ≤ 1048576 := by have h1 := b1.out.len; have h2 := d1.out.len; omega
    have vdl := Bd.out.lt
    have vd0 := (Bd.out.2 0 _ rfl).1
    have vd1 := (Bd.out.2 1 _ rfl).1
    have vxl := Bx.out.lt
    have vx0 := (Bx.out.2 0 _ rfl).1
    have vx1 := (Bx.out.2 1 _ rfl).1
    go_wp2_with fail
    clear vdl vd0 vd1 vxl vx0 vx1
    replace d1 := Lib.hid (d1.out.alloc (by omega) (.cells #[.slice Ab nb cb, .int .i64 (pd)] 35))
    replace Bd := Lib.hid (Bd.out.alloc (.cells #[.slice Ab nb cb, .int .i64 (pd)] 35))
    replace l1 := Lib.hid (l1.out.alloc (by omega) (.cells #[.slice Ab nb cb, .int .i64 (pd)] 35))
    replace x1 := Lib.hid (x1.out.alloc (by omega) (.cells #[.slice Ab nb cb, .int .i64 (pd)] 35))
    replace Bx := Lib.hid (Bx.out.alloc (.cells #[.slice Ab nb cb, .int .i64 (pd)] 35))
    replace b1 := Lib.hid (b1.out.alloc (by omega) (.cells #[.slice Ab nb cb, .int .i64 (pd)] 35))
    replace EB := Lib.hid (EB.out.alloc (by omega) (.cells #[.slice Ab nb cb, .int .i64 (pd)] 35))
    have Bb := Lib.hid (Box.new w11 35 [.slice Ab nb cb, .int .i64 (pd)])
    have s12 : w11.heap.size + 1 ≤ (w11.alloc (.cells #[.slice Ab nb cb, .int .i64 (pd)] 35)).heap.size := by simp
    generalize w11.alloc (.cells #[.slice Ab nb cb, .int .i64 (pd)] 35) = w12 at *
    refine (to_pl (PlainRead_x b1.out (by omega) hcb (by omega) (by unfold okInt; omega)) HO.out).mono ?_
    rintro e w13 ⟨Ar, nr, cr, As, ns, cs, rfl, ⟨hcr, hcs⟩, hb, hd, hl⟩
    (try simp only [World.size_alloc, World.size_setCell, World.size_drew] at hb)
    have HB := Lib.hid hb
    clear hb
    have s13 := HB.out.size
    (try simp only [World.size_alloc, World.size_setCell, World.size_drew] at s13)
    replace d1 := Lib.hid (d1.out.below HB.out (by omega))
    replace Bd := Lib.hid (Bd.out.below HB.out (by omega))
    replace l1 := Lib.hid (l1.out.below HB.out (by omega))
    replace x1 := Lib.hid (x1.out.below HB.out (by omega))
    replace Bx := Lib.hid (Bx.out.below HB.out (by omega))
    replace b1 := Lib.hid (b1.out.below HB.out (by omega))
    replace Bb := Lib.hid (Bb.out.below HB.out (by omega))
    replace EB := Lib.hid (below_step HB.out EB.out (by omega))
    clear HB
    have s1 := Lib.hid hl
    have r1 := Lib.hid hd
    clear hd hl
    have hnr : nr ≤ 1048576 := by have h1 := r1.out.len; have h2 := d1.out.len; omega
    have vdl := Bd.out.lt
    have vd0 := (Bd.out.2 0 _ rfl).1
    have vd1 := (Bd.out.2 1 _ rfl).1
    have vxl := Bx.out.lt
    have vx0 := (Bx.out.2 0 _ rfl).1
    have vx1 := (Bx.out.2 1 _ rfl).1
    have vbl := Bb.out.lt
    have vb0 := (Bb.out.2 0 _ rfl).1
    have vb1 := (Bb.out.2 1 _ rfl).1
    go_wp2_with fail
    clear vdl vd0 vd1 vxl vx0 vx1 vbl vb0 vb1
    replace d1 := Lib.hid (d1.out.alloc (by omega) (.cells #[.slice Ar nr cr, .int .i64 (pd + (nl : Int))] 35))
    replace Bd := Lib.hid (Bd.out.alloc (.cells #[.slice Ar nr cr, .int .i64 (pd + (nl : Int))] 35))
    replace l1 := Lib.hid (l1.out.alloc (by omega) (.cells #[.slice Ar nr cr, .int .i64 (pd + (nl : Int))] 35))
    replace x1 := Lib.hid (x1.out.alloc (by omega) (.cells #[.slice Ar nr cr, .int .i64 (pd + (nl : Int))] 35))
    replace Bx := Lib.hid (Bx.out.alloc (.cells #[.slice Ar nr cr, .int .i64 (pd + (nl : Int))] 35))
    replace b1 := Lib.hid (b1.out.alloc (by omega) (.cells #[.slice Ar nr cr, .int .i64 (pd + (nl : Int))] 35))
    replace Bb := Lib.hid (Bb.out.alloc (.cells #[.slice Ar nr cr, .int .i64 (pd + (nl : Int))] 35))
    replace s1 := Lib.hid (s1.out.alloc (by omega) (.cells #[.slice Ar nr cr, .int .i64 (pd + (nl : Int))] 35))
    replace r1 := Lib.hid (r1.out.alloc (by omega) (.cells #[.slice Ar nr cr, .int .i64 (pd + (nl : Int))] 35))
    replace EB := Lib.hid (EB.out.alloc (by omega) (.cells #[.slice Ar nr cr, .int .i64 (pd + (nl : Int))] 35))
    have Br := Lib.hid (Box.new w13 35 [.slice Ar nr cr, .int .i64 (pd + (nl : Int))])
    have s14 : w13.heap.size + 1 ≤ (w13.alloc (.cells #[.slice Ar nr cr, .int .i64 (pd + (nl : Int))] 35)).heap.size := by simp
    generalize w13.alloc (.cells #[.slice Ar nr cr, .int .i64 (pd + (nl : Int))] 35) = w14 at *
    have vdl := Bd.out.lt
    have vd0 := (Bd.out.2 0 _ rfl).1
    have vd1 := (Bd.out.2 1 _ rfl).1
    have vxl := Bx.out.lt
    have vx0 := (Bx.out.2 0 _ rfl).1
    have vx1 := (Bx.out.2 1 _ rfl).1
    have vbl := Bb.out.lt
    have vb0 := (Bb.out.2 0 _ rfl).1
    have vb1 := (Bb.out.2 1 _ rfl).1
    go_wp2_with fail
    refine (equalInts_same s1.out l1.out rfl).mono ?_
    clear vdl vd0 vd1 vxl vx0 vx1 vbl vb0 vb1
    rintro e w15 ⟨rfl, hb⟩
    (try simp only [World.size_alloc, World.size_setCell, World.size_drew] at hb)
    have HB := Lib.hid hb
    clear hb
    have s15 := HB.out.size
    (try simp only [World.size_alloc, World.size_setCell, World.size_drew] at s15)
    replace d1 := Lib.hid (d1.out.below HB.out (by omega))
    replace Bd := Lib.hid (Bd.out.below HB.out (by omega))
    replace l1 := Lib.hid (l1.out.below HB.out (by omega))
    replace x1 := Lib.hid (x1.out.below HB.out (by omega))
    replace Bx := Lib.hid (Bx.out.below HB.out (by omega))
    replace b1 := Lib.hid (b1.out.below HB.out (by omega))
    replace Bb := Lib.hid (Bb.out.below HB.out (by omega))
    replace s1 := Lib.hid (s1.out.below HB.out (by omega))
    replace r1 := Lib.hid (r1.out.below HB.out (by omega))
    replace Br := Lib.hid (Br.out.below HB.out (by omega))
    replace EB := Lib.hid (below_step HB.out EB.out (by omega))
    clear HB
    have vdl := Bd.out.lt
    have vd0 := (Bd.out.2 0 _ rfl).1
    have vd1 := (Bd.out.2 1 _ rfl).1
    have vxl := Bx.out.lt
    have vx0 := (Bx.out.2 0 _ rfl).1
    have vx1 := (Bx.out.2 1 _ rfl).1
    have vbl := Bb.out.lt
    have vb0 := (Bb.out.2 0 _ rfl).1
    have vb1 := (Bb.out.2 1 _ rfl).1
    go_wp2_with fail
    refine (equalInts_same x1.out d1.out rfl).mono ?_
    clear vdl vd0 vd1 vxl vx0 vx1 vbl vb0 vb1
    rintro e w16 ⟨rfl, hb⟩
    (try simp only [World.size_alloc, World.size_setCell, World.size_drew] at hb)
    have HB := Lib.hid hb
    clear hb
    have s16 := HB.out.size
    (try simp only [World.size_alloc, World.size_setCell, World.size_drew] at s16)
    replace d1 := Lib.hid (d1.out.below HB.out (by omega))
    replace Bd := Lib.hid (Bd.out.below HB.out (by omega))
    replace l1 := Lib.hid (l1.out.below HB.out (by omega))
    replace x1 := Lib.hid (x1.out.below HB.out (by omega))
    replace Bx := Lib.hid (Bx.out.below HB.out (by omega))
    replace b1 := Lib.hid (b1.out.below HB.out (by omega))
    replace Bb := Lib.hid (Bb.out.below HB.out (by omega))
    replace s1 := Lib.hid (s1.out.below HB.out (by omega))
    replace r1 := Lib.hid (r1.out.below HB.out (by omega))
    replace Br := Lib.hid (Br.out.below HB.out (by omega))
    replace EB := Lib.hid (below_step HB.out EB.out (by omega))
    clear HB
    have vdl := Bd.out.lt
    have vd0 := (Bd.out.2 0 _ rfl).1
    have vd1 := (Bd.out.2 1 _ rfl).1
    have vxl := Bx.out.lt
    have vx0 := (Bx.out.2 0 _ rfl).1
    have vx1 := (Bx.out.2 1 _ rfl).1
    have vbl := Bb.out.lt
    have vb0 := (Bb.out.2 0 _ rfl).1
    have vb1 := (Bb.out.2 1 _ rfl).1
    go_wp2
    go_ret
    exact ⟨rfl, EB.out⟩

theorem contract (H : Type) (enc : TypeId × Value → H) (W : World) (base : Nat) (args : Array Value) (ds gs : List (DataW H)) (before : List MemPlace)
    (hval : ∀ (j : Nat) t v, Try.f4.params[j]? = some t → args[j]? = some v → Value.okWide Try.prog W .any base t v)
    (hW : DataW.Whole enc Try.prog Try.f4.params.toList Rows.fnPlainReadSpec.vars false W args.toList ds gs before) :
    Calls Try.prog 4 args W fun e W' => ∃ v, e = .returned v ∧ Rows.fnPlainReadSpec.post enc Try.prog Try.f4 false true false false W args v W' := by
  have hW' := hW
  have hlt : ∀ p ∈ before, p.block < W.heap.size := fun p hp => hW.lt p hp
  obtain ⟨p, q, hA0, hV, rfl, hfz, hnd⟩ := hW
  have hA : DataW.TrodAll enc Try.prog W 0 (fun _ => true) true Try.f4.params.toList args.toList ds p := hA0
  rw [Try.params4] at hA hval
  obtain ⟨v0, vs0, d0, ds0, p0, q0, hargs, rfl, rfl, h0, r0⟩ := trodAll_cons hA
  obtain ⟨rfl, rfl, rfl⟩ := trodAll_nil r0
  obtain rfl : args = #[v0] := by cases args; simp_all
  obtain ⟨rfl, rfl⟩ := trodVars_none hV
  obtain ⟨A, n, c, rfl, hnc, hby, hmx⟩ := arg_bytes (hval 0 _ v0 rfl rfl) h0 (fun p hp => hlt p (by simp [hp]))
  refine (walk A n c W hby hnc hmx).mono fun e W' hh => ?_
  obtain ⟨rfl, hb⟩ := hh
  exact ⟨_, rfl, law_post laidOut (tys_of (by rw [Try.params4]; kernel_rfl)) hW' rfl rfl rfl Try.underlying4 hb⟩

set_option maxRecDepth 100000 in
theorem lifted (os : Os) (started : os.Started) (H : Type) (enc : TypeId × Value → H) :
    ReturnsInHanded {} Try.checked os 4 .any (Rows.fnPlainReadSpec.pre6 enc Try.prog Try.f4 Rows.fnPlainReadRow.domain false) (Rows.fnPlainReadSpec.post enc Try.prog Try.f4 false true false false) := by
  refine returnsInHanded_of_change (C := Try.checked) own started (by kernel_rfl) Try.func4
    (ChangeSpec.witness6 (C := Try.checked) false ⟨#[], #[.slice none 0 0], []⟩ 8 (by kernel_rfl) (by kernel_rfl) (by kernel_rfl) (by kernel_rfl)) ?_
  intro W base args ds gs before hval hW _ _
  exact contract H enc W base args ds gs before hval hW

theorem holds : Rows.FnPlainReadSaid :=
  OpenClaim.holds_of_wide 4 Try.f4 rfl rfl rfl rfl rfl rfl rfl ⟨rfl, rfl, rfl, rfl, rfl⟩ rfl rfl rfl rfl rfl (by kernel_rfl) Try.func4 (by kernel_rfl)
    (of_decide_eq_true (by kernel_rfl)) (by unfold Func.isWrapper; first | (rw [if_pos (by decide +kernel)]; kernel_rfl) | (rw [if_neg (by decide +kernel)]; exact ⟨rfl, rfl⟩))
    (fun os started H enc _ => lifted os started H enc)
end LawPlainRead
end Go.Proofs.Ytdiebkaedjlckaa
