/- The law of promise 03: the bytes that a call reads are the first ones that are ahead, and the others are ahead then. No conditions. -/
import Derived.Test.YtlincjmiimmmeaaK1
import Derived.Test.YtlincjmiimmmeaaG2
set_option maxRecDepth 10000
namespace Go.Proofs.Ytlincjmiimmmeaa
open Go.ChangeShapes Go.WideShapes Go.ChangeAt Go.RowKit
set_option linter.unusedSimpArgs false
set_option linter.unusedVariables false
namespace LawReadDevice
set_option maxHeartbeats 8000000 in
theorem walk (A : Option Addr) (n c : Nat) (w : World) (h : BytesIn w w.heap.size A n) (hnc : n ≤ c) (hm : n ≤ 9223372036854775807) :
    Calls Try.prog 4 #[.slice A n c] w (BoolB true w) := by
  have HBY := Lib.hid h
  clear h
  have EB := Lib.hid (Below.refl w.heap.size w)
  by_cases hbig : (1048576 : Int) < (n : Int)
  · go_enter Try.func4, Try.ntmps4
    go_wp2
    go_ret
    exact ⟨rfl, Below.refl _ _⟩
  go_enter Try.func4, Try.ntmps4
  go_wp2_with fail
  refine (DrawReadDevice_any HBY.out (by omega) hnc).mono ?_
  rintro e w1 ⟨Ad, nd, cd, Ad', nd', cd', Dd, Sd, pd, qd, zn, rfl, ⟨⟨hcd, hcd'⟩, hb, hd, hd', ⟨hnd, hnd'⟩, hpd, hqd⟩, hzn⟩
  (try simp only [World.size_alloc, World.size_setCell, World.size_drew] at hb)
  have HB := Lib.hid hb
  clear hb
  have s1 := HB.out.size
  (try simp only [World.size_alloc, World.size_setCell, World.size_drew] at s1)
  replace EB := Lib.hid (below_step HB.out EB.out (by omega))
  clear HB
  have d1 := Lib.hid hd
  have d2 := Lib.hid hd'
  clear hd hd' HBY
  go_wp2_with fail
  replace d1 := Lib.hid (d1.out.alloc (by omega) (.cells #[.slice Ad nd cd, .int .i64 (pd), .slice Ad' nd' cd', .int .i64 (qd)] 25))
  replace d2 := Lib.hid (d2.out.alloc (by omega) (.cells #[.slice Ad nd cd, .int .i64 (pd), .slice Ad' nd' cd', .int .i64 (qd)] 25))
  replace EB := Lib.hid (EB.out.alloc (by omega) (.cells #[.slice Ad nd cd, .int .i64 (pd), .slice Ad' nd' cd', .int .i64 (qd)] 25))
  have Bd := Lib.hid (Box.new w1 25 [.slice Ad nd cd, .int .i64 (pd), .slice Ad' nd' cd', .int .i64 (qd)])
  have s2 : w1.heap.size + 1 ≤ (w1.alloc (.cells #[.slice Ad nd cd, .int .i64 (pd), .slice Ad' nd' cd', .int .i64 (qd)] 25)).heap.size := by simp
  generalize w1.alloc (.cells #[.slice Ad nd cd, .int .i64 (pd), .slice Ad' nd' cd', .int .i64 (qd)] 25) = w2 at *
  cases hg : rdGood Dd pd Sd qd zn
  · refine (to_dli (ReadDevice_x d1.out d2.out (by omega) (by omega) hcd hcd' (by omega) (by omega) (by unfold okInt; omega)) (rd_no hg)).mono ?_
    rintro e w3 ⟨Ax, nx, cx, Ax', nx', cx', Al, nl, cl, rfl, ⟨hcx, hcx', hcl⟩, hb, ⟨hd, hd', _, _, _⟩, hl⟩
    (try simp only [World.size_alloc, World.size_setCell, World.size_drew] at hb)
    have HB := Lib.hid hb
    clear hb
    have s3 := HB.out.size
    (try simp only [World.size_alloc, World.size_setCell, World.size_drew] at s3)
    replace d1 := Lib.hid (d1.out.below HB.out (by omega))
    replace d2 := Lib.hid (d2.out.below HB.out (by omega))
    replace Bd := Lib.hid (Bd.out.below HB.out (by omega))
    replace EB := Lib.hid (below_step HB.out EB.out (by omega))
    clear HB
    have l1 := Lib.hid hl
    have x1 := Lib.hid hd
    have x2 := Lib.hid hd'
    clear hd hd' hl
    have hnx : nx ≤ 1048576 := by have h1 := x1.out.len; have h2 := d1.out.len; (try simp only [List.length_nil, cutL_len] at h1); omega
    have hnx' : nx' ≤ 1048576 := by have h1 := x2.out.len; have h2 := d2.out.len; (try simp only [List.length_nil] at h1); omega
    have vdl := Bd.out.lt
    have vd0 := (Bd.out.2 0 _ rfl).1
    have vd1 := (Bd.out.2 1 _ rfl).1
    have vd2 := (Bd.out.2 2 _ rfl).1
    have vd3 := (Bd.out.2 3 _ rfl).1
    go_wp2_with fail
    clear vdl vd0 vd1 vd2 vd3
    replace d1 := Lib.hid (d1.out.alloc (by omega) (.cells #[.slice Ax nx cx, .int .i64 (0), .slice Ax' nx' cx', .int .i64 (0)] 25))
    replace d2 := Lib.hid (d2.out.alloc (by omega) (.cells #[.slice Ax nx cx, .int .i64 (0), .slice Ax' nx' cx', .int .i64 (0)] 25))
    replace Bd := Lib.hid (Bd.out.alloc (.cells #[.slice Ax nx cx, .int .i64 (0), .slice Ax' nx' cx', .int .i64 (0)] 25))
    replace l1 := Lib.hid (l1.out.alloc (by omega) (.cells #[.slice Ax nx cx, .int .i64 (0), .slice Ax' nx' cx', .int .i64 (0)] 25))
    replace x1 := Lib.hid (x1.out.alloc (by omega) (.cells #[.slice Ax nx cx, .int .i64 (0), .slice Ax' nx' cx', .int .i64 (0)] 25))
    replace x2 := Lib.hid (x2.out.alloc (by omega) (.cells #[.slice Ax nx cx, .int .i64 (0), .slice Ax' nx' cx', .int .i64 (0)] 25))
    replace EB := Lib.hid (EB.out.alloc (by omega) (.cells #[.slice Ax nx cx, .int .i64 (0), .slice Ax' nx' cx', .int .i64 (0)] 25))
    have Bx := Lib.hid (Box.new w3 25 [.slice Ax nx cx, .int .i64 (0), .slice Ax' nx' cx', .int .i64 (0)])
    have s4 : w3.heap.size + 1 ≤ (w3.alloc (.cells #[.slice Ax nx cx, .int .i64 (0), .slice Ax' nx' cx', .int .i64 (0)] 25)).heap.size := by simp
    generalize w3.alloc (.cells #[.slice Ax nx cx, .int .i64 (0), .slice Ax' nx' cx', .int .i64 (0)] 25) = w4 at *
    refine (to_dli (SReadDevice_x d1.out d2.out (by omega) (by omega) hcd hcd' (by omega) (by omega) (by unfold okInt; omega)) (rd_no hg)).mono ?_
    rintro e w5 ⟨Ay, ny, cy, Ay', ny', cy', Am, nm, cm, rfl, ⟨hcy, hcy', hcm⟩, hb, ⟨hd, hd', _, _, _⟩, hl⟩
    (try simp only [World.size_alloc, World.size_setCell, World.size_drew] at hb)
    have HB := Lib.hid hb
    clear hb
    have s5 := HB.out.size
    (try simp only [World.size_alloc, World.size_setCell, World.size_drew] at s5)
    replace d1 := Lib.hid (d1.out.below HB.out (by omega))
    replace d2 := Lib.hid (d2.out.below HB.out (by omega))
    replace Bd := Lib.hid (Bd.out.below HB.out (by omega))
    replace l1 := Lib.hid (l1.out.below HB.out (by omega))
    replace x1 := Lib.hid (x1.out.below HB.out (by omega))
    replace x2 := Lib.hid (x2.out.below HB.out (by omega))
    replace Bx := Lib.hid (Bx.out.below HB.out (by omega))
    replace EB := Lib.hid (below_step HB.out EB.out (by omega))
    clear HB
    have m1 := Lib.hid hl
    have y1 := Lib.hid hd
    have y2 := Lib.hid hd'
    clear hd hd' hl
    have hny : ny ≤ 1048576 := by have h1 := y1.out.len; have h2 := d1.out.len; (try simp only [List.length_nil, cutL_len] at h1); omega
    have hny' : ny' ≤ 1048576 := by have h1 := y2.out.len; have h2 := d2.out.len; (try simp only [List.length_nil] at h1); omega
    have vxl := Bx.out.lt
    have vx0 := (Bx.out.2 0 _ rfl).1
    have vx1 := (Bx.out.2 1 _ rfl).1
    have vx2 := (Bx.out.2 2 _ rfl).1
    have vx3 := (Bx.out.2 3 _ rfl).1
    go_wp2_with fail
    clear vxl vx0 vx1 vx2 vx3
    replace d1 := Lib.hid (d1.out.alloc (by omega) (.cells #[.slice Ay ny cy, .int .i64 (0), .slice Ay' ny' cy', .int .i64 (0)] 25))
    replace d2 := Lib.hid (d2.out.alloc (by omega) (.cells #[.slice Ay ny cy, .int .i64 (0), .slice Ay' ny' cy', .int .i64 (0)] 25))
    replace Bd := Lib.hid (Bd.out.alloc (.cells #[.slice Ay ny cy, .int .i64 (0), .slice Ay' ny' cy', .int .i64 (0)] 25))
    replace l1 := Lib.hid (l1.out.alloc (by omega) (.cells #[.slice Ay ny cy, .int .i64 (0), .slice Ay' ny' cy', .int .i64 (0)] 25))
    replace x1 := Lib.hid (x1.out.alloc (by omega) (.cells #[.slice Ay ny cy, .int .i64 (0), .slice Ay' ny' cy', .int .i64 (0)] 25))
    replace x2 := Lib.hid (x2.out.alloc (by omega) (.cells #[.slice Ay ny cy, .int .i64 (0), .slice Ay' ny' cy', .int .i64 (0)] 25))
    replace Bx := Lib.hid (Bx.out.alloc (.cells #[.slice Ay ny cy, .int .i64 (0), .slice Ay' ny' cy', .int .i64 (0)] 25))
    replace m1 := Lib.hid (m1.out.alloc (by omega) (.cells #[.slice Ay ny cy, .int .i64 (0), .slice Ay' ny' cy', .int .i64 (0)] 25))
    replace y1 := Lib.hid (y1.out.alloc (by omega) (.cells #[.slice Ay ny cy, .int .i64 (0), .slice Ay' ny' cy', .int .i64 (0)] 25))
    replace y2 := Lib.hid (y2.out.alloc (by omega) (.cells #[.slice Ay ny cy, .int .i64 (0), .slice Ay' ny' cy', .int .i64 (0)] 25))
    replace EB := Lib.hid (EB.out.alloc (by omega) (.cells #[.slice Ay ny cy, .int .i64 (0), .slice Ay' ny' cy', .int .i64 (0)] 25))
    have By := Lib.hid (Box.new w5 25 [.slice Ay ny cy, .int .i64 (0), .slice Ay' ny' cy', .int .i64 (0)])
    have s6 : w5.heap.size + 1 ≤ (w5.alloc (.cells #[.slice Ay ny cy, .int .i64 (0), .slice Ay' ny' cy', .int .i64 (0)] 25)).heap.size := by simp
    generalize w5.alloc (.cells #[.slice Ay ny cy, .int .i64 (0), .slice Ay' ny' cy', .int .i64 (0)] 25) = w6 at *
    refine (equalDevice_same x1.out x2.out y1.out y2.out (by omega) (by omega) (by omega) (by omega)).mono ?_
    rintro e w7 ⟨rfl, hb⟩
    (try simp only [World.size_alloc, World.size_setCell, World.size_drew] at hb)
    have HB := Lib.hid hb
    clear hb
    have s7 := HB.out.size
    (try simp only [World.size_alloc, World.size_setCell, World.size_drew] at s7)
    replace d1 := Lib.hid (d1.out.below HB.out (by omega))
    replace d2 := Lib.hid (d2.out.below HB.out (by omega))
    replace Bd := Lib.hid (Bd.out.below HB.out (by omega))
    replace l1 := Lib.hid (l1.out.below HB.out (by omega))
    replace x1 := Lib.hid (x1.out.below HB.out (by omega))
    replace x2 := Lib.hid (x2.out.below HB.out (by omega))
    replace Bx := Lib.hid (Bx.out.below HB.out (by omega))
    replace m1 := Lib.hid (m1.out.below HB.out (by omega))
    replace y1 := Lib.hid (y1.out.below HB.out (by omega))
    replace y2 := Lib.hid (y2.out.below HB.out (by omega))
    replace By := Lib.hid (By.out.below HB.out (by omega))
    replace EB := Lib.hid (below_step HB.out EB.out (by omega))
    clear HB
    go_wp2_with fail
    refine (equalInts_same l1.out m1.out rfl).mono ?_
    rintro e w8 ⟨rfl, hb⟩
    (try simp only [World.size_alloc, World.size_setCell, World.size_drew] at hb)
    have HB := Lib.hid hb
    clear hb
    have s8 := HB.out.size
    (try simp only [World.size_alloc, World.size_setCell, World.size_drew] at s8)
    replace d1 := Lib.hid (d1.out.below HB.out (by omega))
    replace d2 := Lib.hid (d2.out.below HB.out (by omega))
    replace Bd := Lib.hid (Bd.out.below HB.out (by omega))
    replace l1 := Lib.hid (l1.out.below HB.out (by omega))
    replace x1 := Lib.hid (x1.out.below HB.out (by omega))
    replace x2 := Lib.hid (x2.out.below HB.out (by omega))
    replace Bx := Lib.hid (Bx.out.below HB.out (by omega))
    replace m1 := Lib.hid (m1.out.below HB.out (by omega))
    replace y1 := Lib.hid (y1.out.below HB.out (by omega))
    replace y2 := Lib.hid (y2.out.below HB.out (by omega))
    replace By := Lib.hid (By.out.below HB.out (by omega))
    replace EB := Lib.hid (below_step HB.out EB.out (by omega))
    clear HB
    have vxl := Bx.out.lt
    have vx0 := (Bx.out.2 0 _ rfl).1
    have vx1 := (Bx.out.2 1 _ rfl).1
    have vx2 := (Bx.out.2 2 _ rfl).1
    have vx3 := (Bx.out.2 3 _ rfl).1
    have vyl := By.out.lt
    have vy0 := (By.out.2 0 _ rfl).1
    have vy1 := (By.out.2 1 _ rfl).1
    have vy2 := (By.out.2 2 _ rfl).1
    have vy3 := (By.out.2 3 _ rfl).1
    go_wp2_with fail
    refine (equalDevice_same x1.out x2.out y1.out y2.out (by omega) (by omega) (by omega) (by omega)).mono ?_
    clear vxl vx0 vx1 vx2 vx3 vyl vy0 vy1 vy2 vy3
    rintro e w9 ⟨rfl, hb⟩
    (try simp only [World.size_alloc, World.size_setCell, World.size_drew] at hb)
    have HB := Lib.hid hb
    clear hb
    have s9 := HB.out.size
    (try simp only [World.size_alloc, World.size_setCell, World.size_drew] at s9)
    replace d1 := Lib.hid (d1.out.below HB.out (by omega))
    replace d2 := Lib.hid (d2.out.below HB.out (by omega))
    replace Bd := Lib.hid (Bd.out.below HB.out (by omega))
    replace l1 := Lib.hid (l1.out.below HB.out (by omega))
    replace x1 := Lib.hid (x1.out.below HB.out (by omega))
    replace x2 := Lib.hid (x2.out.below HB.out (by omega))
    replace Bx := Lib.hid (Bx.out.below HB.out (by omega))
    replace m1 := Lib.hid (m1.out.below HB.out (by omega))
    replace y1 := Lib.hid (y1.out.below HB.out (by omega))
    replace y2 := Lib.hid (y2.out.below HB.out (by omega))
    replace By := Lib.hid (By.out.below HB.out (by omega))
    replace EB := Lib.hid (below_step HB.out EB.out (by omega))
    clear HB
    go_wp2_with fail
    refine (equalInts_same l1.out m1.out rfl).mono ?_
    rintro e w10 ⟨rfl, hb⟩
    (try simp only [World.size_alloc, World.size_setCell, World.size_drew] at hb)
    have HB := Lib.hid hb
    clear hb
    have s10 := HB.out.size
    (try simp only [World.size_alloc, World.size_setCell, World.size_drew] at s10)
    replace d1 := Lib.hid (d1.out.below HB.out (by omega))
    replace d2 := Lib.hid (d2.out.below HB.out (by omega))
    replace Bd := Lib.hid (Bd.out.below HB.out (by omega))
    replace l1 := Lib.hid (l1.out.below HB.out (by omega))
    replace x1 := Lib.hid (x1.out.below HB.out (by omega))
    replace x2 := Lib.hid (x2.out.below HB.out (by omega))
    replace Bx := Lib.hid (Bx.out.below HB.out (by omega))
    replace m1 := Lib.hid (m1.out.below HB.out (by omega))
    replace y1 := Lib.hid (y1.out.below HB.out (by omega))
    replace y2 := Lib.hid (y2.out.below HB.out (by omega))
    replace By := Lib.hid (By.out.below HB.out (by omega))
    replace EB := Lib.hid (below_step HB.out EB.out (by omega))
    clear HB
    go_wp2
    go_ret
    exact ⟨rfl, EB.out⟩
  · obtain ⟨hv, hq, hN1, hN2⟩ := rdGood_iff.1 hg
    obtain ⟨st, hst, hhow⟩ := rd_how hg
    have hol := (rd_of hg).trans (by rw [hst])
    have hs5 : ¬ st = 5 := by omega
    have HLE := Lib.hid hhow
    clear hhow
    obtain ⟨L, hL⟩ : ∃ L, rdL Dd pd (mayAt Sd qd.toNat) zn = L := ⟨_, rfl⟩
    rw [hL] at hol HLE
    refine (to_dli (ReadDevice_x d1.out d2.out (by omega) (by omega) hcd hcd' (by omega) (by omega) (by unfold okInt; omega)) hol).mono ?_
    rintro e w3 ⟨Ax, nx, cx, Ax', nx', cx', Al, nl, cl, rfl, ⟨hcx, hcx', hcl⟩, hb, ⟨hd, hd', _, _, _⟩, hl⟩
    (try simp only [World.size_alloc, World.size_setCell, World.size_drew] at hb)
    have HB := Lib.hid hb
    clear hb
    have s3 := HB.out.size
    (try simp only [World.size_alloc, World.size_setCell, World.size_drew] at s3)
    replace d1 := Lib.hid (d1.out.below HB.out (by omega))
    replace d2 := Lib.hid (d2.out.below HB.out (by omega))
    replace Bd := Lib.hid (Bd.out.below HB.out (by omega))
    replace EB := Lib.hid (below_step HB.out EB.out (by omega))
    clear HB
    have l1 := Lib.hid hl
    have x1 := Lib.hid hd
    have x2 := Lib.hid hd'
    clear hd hd' hl
    have hnx : nx ≤ 1048576 := by have h1 := x1.out.len; have h2 := d1.out.len; (try simp only [List.length_nil, cutL_len] at h1); omega
    have hnx' : nx' ≤ 1048576 := by have h1 := x2.out.len; have h2 := d2.out.len; (try simp only [List.length_nil] at h1); omega
    have vdl := Bd.out.lt
    have vd0 := (Bd.out.2 0 _ rfl).1
    have vd1 := (Bd.out.2 1 _ rfl).1
    have vd2 := (Bd.out.2 2 _ rfl).1
    have vd3 := (Bd.out.2 3 _ rfl).1
    go_wp2_with fail
    clear vdl vd0 vd1 vd2 vd3
    replace d1 := Lib.hid (d1.out.alloc (by omega) (.cells #[.slice Ax nx cx, .int .i64 (pd + (L.length : Int)), .slice Ax' nx' cx', .int .i64 (qd + 1)] 25))
    replace d2 := Lib.hid (d2.out.alloc (by omega) (.cells #[.slice Ax nx cx, .int .i64 (pd + (L.length : Int)), .slice Ax' nx' cx', .int .i64 (qd + 1)] 25))
    replace Bd := Lib.hid (Bd.out.alloc (.cells #[.slice Ax nx cx, .int .i64 (pd + (L.length : Int)), .slice Ax' nx' cx', .int .i64 (qd + 1)] 25))
    replace l1 := Lib.hid (l1.out.alloc (by omega) (.cells #[.slice Ax nx cx, .int .i64 (pd + (L.length : Int)), .slice Ax' nx' cx', .int .i64 (qd + 1)] 25))
    replace x1 := Lib.hid (x1.out.alloc (by omega) (.cells #[.slice Ax nx cx, .int .i64 (pd + (L.length : Int)), .slice Ax' nx' cx', .int .i64 (qd + 1)] 25))
    replace x2 := Lib.hid (x2.out.alloc (by omega) (.cells #[.slice Ax nx cx, .int .i64 (pd + (L.length : Int)), .slice Ax' nx' cx', .int .i64 (qd + 1)] 25))
    replace EB := Lib.hid (EB.out.alloc (by omega) (.cells #[.slice Ax nx cx, .int .i64 (pd + (L.length : Int)), .slice Ax' nx' cx', .int .i64 (qd + 1)] 25))
    have Bx := Lib.hid (Box.new w3 25 [.slice Ax nx cx, .int .i64 (pd + (L.length : Int)), .slice Ax' nx' cx', .int .i64 (qd + 1)])
    have s4 : w3.heap.size + 1 ≤ (w3.alloc (.cells #[.slice Ax nx cx, .int .i64 (pd + (L.length : Int)), .slice Ax' nx' cx', .int .i64 (qd + 1)] 25)).heap.size := by simp
    generalize w3.alloc (.cells #[.slice Ax nx cx, .int .i64 (pd + (L.length : Int)), .slice Ax' nx' cx', .int .i64 (qd + 1)] 25) = w4 at *
    refine (to_dli (SReadDevice_x d1.out d2.out (by omega) (by omega) hcd hcd' (by omega) (by omega) (by unfold okInt; omega)) hol).mono ?_
    rintro e w5 ⟨Ay, ny, cy, Ay', ny', cy', Am, nm, cm, rfl, ⟨hcy, hcy', hcm⟩, hb, ⟨hd, hd', _, _, _⟩, hl⟩
    (try simp only [World.size_alloc, World.size_setCell, World.size_drew] at hb)
    have HB := Lib.hid hb
    clear hb
    have s5 := HB.out.size
    (try simp only [World.size_alloc, World.size_setCell, World.size_drew] at s5)
    replace d1 := Lib.hid (d1.out.below HB.out (by omega))
    replace d2 := Lib.hid (d2.out.below HB.out (by omega))
    replace Bd := Lib.hid (Bd.out.below HB.out (by omega))
    replace l1 := Lib.hid (l1.out.below HB.out (by omega))
    replace x1 := Lib.hid (x1.out.below HB.out (by omega))
    replace x2 := Lib.hid (x2.out.below HB.out (by omega))
    replace Bx := Lib.hid (Bx.out.below HB.out (by omega))
    replace EB := Lib.hid (below_step HB.out EB.out (by omega))
    clear HB
    have m1 := Lib.hid hl
    have y1 := Lib.hid hd
    have y2 := Lib.hid hd'
    clear hd hd' hl
    have hny : ny ≤ 1048576 := by have h1 := y1.out.len; have h2 := d1.out.len; (try simp only [List.length_nil, cutL_len] at h1); omega
    have hny' : ny' ≤ 1048576 := by have h1 := y2.out.len; have h2 := d2.out.len; (try simp only [List.length_nil] at h1); omega
    have vxl := Bx.out.lt
    have vx0 := (Bx.out.2 0 _ rfl).1
    have vx1 := (Bx.out.2 1 _ rfl).1
    have vx2 := (Bx.out.2 2 _ rfl).1
    have vx3 := (Bx.out.2 3 _ rfl).1
    go_wp2_with fail
    clear vxl vx0 vx1 vx2 vx3
    replace d1 := Lib.hid (d1.out.alloc (by omega) (.cells #[.slice Ay ny cy, .int .i64 (pd + (L.length : Int)), .slice Ay' ny' cy', .int .i64 (qd + 1)] 25))
    replace d2 := Lib.hid (d2.out.alloc (by omega) (.cells #[.slice Ay ny cy, .int .i64 (pd + (L.length : Int)), .slice Ay' ny' cy', .int .i64 (qd + 1)] 25))
    replace Bd := Lib.hid (Bd.out.alloc (.cells #[.slice Ay ny cy, .int .i64 (pd + (L.length : Int)), .slice Ay' ny' cy', .int .i64 (qd + 1)] 25))
    replace l1 := Lib.hid (l1.out.alloc (by omega) (.cells #[.slice Ay ny cy, .int .i64 (pd + (L.length : Int)), .slice Ay' ny' cy', .int .i64 (qd + 1)] 25))
    replace x1 := Lib.hid (x1.out.alloc (by omega) (.cells #[.slice Ay ny cy, .int .i64 (pd + (L.length : Int)), .slice Ay' ny' cy', .int .i64 (qd + 1)] 25))
    replace x2 := Lib.hid (x2.out.alloc (by omega) (.cells #[.slice Ay ny cy, .int .i64 (pd + (L.length : Int)), .slice Ay' ny' cy', .int .i64 (qd + 1)] 25))
    replace Bx := Lib.hid (Bx.out.alloc (.cells #[.slice Ay ny cy, .int .i64 (pd + (L.length : Int)), .slice Ay' ny' cy', .int .i64 (qd + 1)] 25))
    replace m1 := Lib.hid (m1.out.alloc (by omega) (.cells #[.slice Ay ny cy, .int .i64 (pd + (L.length : Int)), .slice Ay' ny' cy', .int .i64 (qd + 1)] 25))
    replace y1 := Lib.hid (y1.out.alloc (by omega) (.cells #[.slice Ay ny cy, .int .i64 (pd + (L.length : Int)), .slice Ay' ny' cy', .int .i64 (qd + 1)] 25))
    replace y2 := Lib.hid (y2.out.alloc (by omega) (.cells #[.slice Ay ny cy, .int .i64 (pd + (L.length : Int)), .slice Ay' ny' cy', .int .i64 (qd + 1)] 25))
    replace EB := Lib.hid (EB.out.alloc (by omega) (.cells #[.slice Ay ny cy, .int .i64 (pd + (L.length : Int)), .slice Ay' ny' cy', .int .i64 (qd + 1)] 25))
    have By := Lib.hid (Box.new w5 25 [.slice Ay ny cy, .int .i64 (pd + (L.length : Int)), .slice Ay' ny' cy', .int .i64 (qd + 1)])
    have s6 : w5.heap.size + 1 ≤ (w5.alloc (.cells #[.slice Ay ny cy, .int .i64 (pd + (L.length : Int)), .slice Ay' ny' cy', .int .i64 (qd + 1)] 25)).heap.size := by simp
    generalize w5.alloc (.cells #[.slice Ay ny cy, .int .i64 (pd + (L.length : Int)), .slice Ay' ny' cy', .int .i64 (qd + 1)] 25) = w6 at *
    refine (equalDevice_same x1.out x2.out y1.out y2.out (by omega) (by omega) (by omega) (by omega)).mono ?_
    rintro e w7 ⟨rfl, hb⟩
    (try simp only [World.size_alloc, World.size_setCell, World.size_drew] at hb)
    have HB := Lib.hid hb
    clear hb
    have s7 := HB.out.size
    (try simp only [World.size_alloc, World.size_setCell, World.size_drew] at s7)
    replace d1 := Lib.hid (d1.out.below HB.out (by omega))
    replace d2 := Lib.hid (d2.out.below HB.out (by omega))
    replace Bd := Lib.hid (Bd.out.below HB.out (by omega))
    replace l1 := Lib.hid (l1.out.below HB.out (by omega))
    replace x1 := Lib.hid (x1.out.below HB.out (by omega))
    replace x2 := Lib.hid (x2.out.below HB.out (by omega))
    replace Bx := Lib.hid (Bx.out.below HB.out (by omega))
    replace m1 := Lib.hid (m1.out.below HB.out (by omega))
    replace y1 := Lib.hid (y1.out.below HB.out (by omega))
    replace y2 := Lib.hid (y2.out.below HB.out (by omega))
    replace By := Lib.hid (By.out.below HB.out (by omega))
    replace EB := Lib.hid (below_step HB.out EB.out (by omega))
    clear HB
    go_wp2_with fail
    refine (equalInts_same l1.out m1.out rfl).mono ?_
    rintro e w8 ⟨rfl, hb⟩
    (try simp only [World.size_alloc, World.size_setCell, World.size_drew] at hb)
    have HB := Lib.hid hb
    clear hb
    have s8 := HB.out.size
    (try simp only [World.size_alloc, World.size_setCell, World.size_drew] at s8)
    replace d1 := Lib.hid (d1.out.below HB.out (by omega))
    replace d2 := Lib.hid (d2.out.below HB.out (by omega))
    replace Bd := Lib.hid (Bd.out.below HB.out (by omega))
    replace l1 := Lib.hid (l1.out.below HB.out (by omega))
    replace x1 := Lib.hid (x1.out.below HB.out (by omega))
    replace x2 := Lib.hid (x2.out.below HB.out (by omega))
    replace Bx := Lib.hid (Bx.out.below HB.out (by omega))
    replace m1 := Lib.hid (m1.out.below HB.out (by omega))
    replace y1 := Lib.hid (y1.out.below HB.out (by omega))
    replace y2 := Lib.hid (y2.out.below HB.out (by omega))
    replace By := Lib.hid (By.out.below HB.out (by omega))
    replace EB := Lib.hid (below_step HB.out EB.out (by omega))
    clear HB
    have vdl := Bd.out.lt
    have vd0 := (Bd.out.2 0 _ rfl).1
    have vd1 := (Bd.out.2 1 _ rfl).1
    have vd2 := (Bd.out.2 2 _ rfl).1
    have vd3 := (Bd.out.2 3 _ rfl).1
    go_wp2_with fail
    refine (to_list (RestOf_x d1.out d2.out (by omega) (by omega) hcd hcd' (by omega) (by omega)) (rest_of hv)).mono ?_
    clear vdl vd0 vd1 vd2 vd3
    rintro e w9 ⟨Ar, nr, cr, rfl, hcr, hb, hl⟩
    (try simp only [World.size_alloc, World.size_setCell, World.size_drew] at hb)
    have HB := Lib.hid hb
    clear hb
    have s9 := HB.out.size
    (try simp only [World.size_alloc, World.size_setCell, World.size_drew] at s9)
    replace d1 := Lib.hid (d1.out.below HB.out (by omega))
    replace d2 := Lib.hid (d2.out.below HB.out (by omega))
    replace Bd := Lib.hid (Bd.out.below HB.out (by omega))
    replace l1 := Lib.hid (l1.out.below HB.out (by omega))
    replace x1 := Lib.hid (x1.out.below HB.out (by omega))
    replace x2 := Lib.hid (x2.out.below HB.out (by omega))
    replace Bx := Lib.hid (Bx.out.below HB.out (by omega))
    replace m1 := Lib.hid (m1.out.below HB.out (by omega))
    replace y1 := Lib.hid (y1.out.below HB.out (by omega))
    replace y2 := Lib.hid (y2.out.below HB.out (by omega))
    replace By := Lib.hid (By.out.below HB.out (by omega))
    replace EB := Lib.hid (below_step HB.out EB.out (by omega))
    clear HB
    have r1 := Lib.hid hl
    clear hl
    have hlr : nl ≤ nr := by have h1 := l1.out.len; have h2 := r1.out.len; have h3 := (List.isPrefixOf_iff_prefix.1 (rdL_pre Dd pd (mayAt Sd qd.toNat) zn)).length_le; rw [hL] at h3; omega
    have hlr2 : (nl : Int) ≤ (nr : Int) := by omega
    have hlr3 : (nl : Int) ≤ (cr : Int) := by omega
    have BE : Hid (L.isPrefixOf (Dd.drop pd.toNat) = true) := by show _ = _; rw [← hL]; exact rdL_pre _ _ _ _
    have RE : Hid (restL Dd (pd + (L.length : Int)) Sd (qd + 1) = (Dd.drop pd.toNat).drop nl) := by show _ = _; rw [l1.out.len, ← hL]; exact rest_read hv hq
    have hwq : IntKind.i64.wrap (qd + 1) = qd + 1 := IntWalk.i64_in _ (by omega)
    by_cases hcn : cr = nl
    · have HCN := hcn
      have hrl : nr ≤ nl := by omega
      have vxl := Bx.out.lt
      have vx0 := (Bx.out.2 0 _ rfl).1
      have vx1 := (Bx.out.2 1 _ rfl).1
      have vx2 := (Bx.out.2 2 _ rfl).1
      have vx3 := (Bx.out.2 3 _ rfl).1
      have vdl := Bd.out.lt
      have vd0 := (Bd.out.2 0 _ rfl).1
      have vd1 := (Bd.out.2 1 _ rfl).1
      have vd2 := (Bd.out.2 2 _ rfl).1
      have vd3 := (Bd.out.2 3 _ rfl).1
      go_wp2_with fail
      go_region_held3 (fun w' => (w'.cell? ⟨w3.heap.size, 0, none⟩ = some (.slice Ax nx cx) ∧ w'.cell? ⟨w3.heap.size, 1, none⟩ = some (.int .i64 (pd + (L.length : Int))) ∧ w'.cell? ⟨w3.heap.size, 2, none⟩ = some (.slice Ax' nx' cx') ∧ w'.cell? ⟨w3.heap.size, 3, none⟩ = some (.int .i64 (qd + 1))) ∧ (w'.cell? ⟨w1.heap.size, 0, none⟩ = some (.slice Ad nd cd) ∧ w'.cell? ⟨w1.heap.size, 1, none⟩ = some (.int .i64 (pd)) ∧ w'.cell? ⟨w1.heap.size, 2, none⟩ = some (.slice Ad' nd' cd') ∧ w'.cell? ⟨w1.heap.size, 3, none⟩ = some (.int .i64 (qd)))) (go_keep)
        (first | (go_at_call 19; (with_reducible refine (begins_same r1.out.drew l1.out.drew hrl BE.out).mono ?_); rintro e wr0 ⟨rfl, hb⟩; (try simp only [World.size_alloc, World.size_setCell, World.size_drew] at hb); have HR0 := Lib.hid hb; have sr0 := hb.size; (try simp only [World.size_alloc, World.size_setCell, World.size_drew] at sr0); have Yx0 := Lib.hid (Bx.out.drew.below hb (by omega)); have Yd0 := Lib.hid (Bd.out.drew.below hb (by omega)); clear hb; have vx0 := (Yx0.out.2 0 _ rfl).1; have vx1 := (Yx0.out.2 1 _ rfl).1; have vx2 := (Yx0.out.2 2 _ rfl).1; have vx3 := (Yx0.out.2 3 _ rfl).1; have vd0 := (Yd0.out.2 0 _ rfl).1; have vd1 := (Yd0.out.2 1 _ rfl).1; have vd2 := (Yd0.out.2 2 _ rfl).1; have vd3 := (Yd0.out.2 3 _ rfl).1) | (go_at_call 18; (with_reducible refine (to_list (RestOf_x (x1.out.drew.below HR0.out (by first | omega | (simp; omega) | (simp; done))) (x2.out.drew.below HR0.out (by first | omega | (simp; omega) | (simp; done))) (by first | omega | (simp; omega) | (simp; done)) (by first | omega | (simp; omega) | (simp; done)) hcx hcx' (by first | omega | (simp; omega) | (simp; done)) (by first | omega | (simp; omega) | (simp; done))) RE.out).mono ?_); rintro e wr1 ⟨As, ns, cs, rfl, hcs, hb, hl⟩; (try simp only [World.size_alloc, World.size_setCell, World.size_drew] at hb hl); have HR1 := Lib.hid hb; have sr1 := hb.size; (try simp only [World.size_alloc, World.size_setCell, World.size_drew] at sr1); have Yx1 := Lib.hid (Yx0.out.below hb (by omega)); have Yd1 := Lib.hid (Yd0.out.below hb (by omega)); have s1 := Lib.hid hl; clear hb hl; have vx0 := (Yx1.out.2 0 _ rfl).1; have vx1 := (Yx1.out.2 1 _ rfl).1; have vx2 := (Yx1.out.2 2 _ rfl).1; have vx3 := (Yx1.out.2 3 _ rfl).1; have vd0 := (Yd1.out.2 0 _ rfl).1; have vd1 := (Yd1.out.2 1 _ rfl).1; have vd2 := (Yd1.out.2 2 _ rfl).1; have vd3 := (Yd1.out.2 3 _ rfl).1) | (go_at_call 17; (with_reducible refine (equalInts_same s1.out (((r1.out.drew.below HR0.out (by first | omega | (simp; omega) | (simp; done))).below HR1.out (by first | omega | (simp; omega) | (simp; done))).gone0 hrl _) rfl).mono ?_); rintro e wr2 ⟨rfl, hb⟩; (try simp only [World.size_alloc, World.size_setCell, World.size_drew] at hb); have HR2 := Lib.hid hb; have sr2 := hb.size; (try simp only [World.size_alloc, World.size_setCell, World.size_drew] at sr2); have Yx2 := Lib.hid (Yx1.out.below hb (by omega)); have Yd2 := Lib.hid (Yd1.out.below hb (by omega)); clear hb; have vx0 := (Yx2.out.2 0 _ rfl).1; have vx1 := (Yx2.out.2 1 _ rfl).1; have vx2 := (Yx2.out.2 2 _ rfl).1; have vx3 := (Yx2.out.2 3 _ rfl).1; have vd0 := (Yd2.out.2 0 _ rfl).1; have vd1 := (Yd2.out.2 1 _ rfl).1; have vd2 := (Yd2.out.2 2 _ rfl).1; have vd3 := (Yd2.out.2 3 _ rfl).1) | (go_at_call 17; (with_reducible refine (equalInts_same (((x1.out.drew.below HR0.out (by first | omega | (simp; omega) | (simp; done))).below HR1.out (by first | omega | (simp; omega) | (simp; done))).below HR2.out (by first | omega | (simp; omega) | (simp; done))) (((d1.out.drew.below HR0.out (by first | omega | (simp; omega) | (simp; done))).below HR1.out (by first | omega | (simp; omega) | (simp; done))).below HR2.out (by first | omega | (simp; omega) | (simp; done))) rfl).mono ?_); rintro e wr3 ⟨rfl, hb⟩; (try simp only [World.size_alloc, World.size_setCell, World.size_drew] at hb); have HR3 := Lib.hid hb; have sr3 := hb.size; (try simp only [World.size_alloc, World.size_setCell, World.size_drew] at sr3); have Yx3 := Lib.hid (Yx2.out.below hb (by omega)); have Yd3 := Lib.hid (Yd2.out.below hb (by omega)); clear hb; have vx0 := (Yx3.out.2 0 _ rfl).1; have vx1 := (Yx3.out.2 1 _ rfl).1; have vx2 := (Yx3.out.2 2 _ rfl).1; have vx3 := (Yx3.out.2 3 _ rfl).1; have vd0 := (Yd3.out.2 0 _ rfl).1; have vd1 := (Yd3.out.2 1 _ rfl).1; have vd2 := (Yd3.out.2 2 _ rfl).1; have vd3 := (Yd3.out.2 3 _ rfl).1))
      go_wp2
      go_ret
      exact ⟨rfl, (below_step HR3.out (below_step HR2.out (below_step HR1.out (below_step HR0.out EB.out.drew (by first | omega | (simp; omega) | (simp; done))) (by first | omega | (simp; omega) | (simp; done))) (by first | omega | (simp; omega) | (simp; done))) (by first | omega | (simp; omega) | (simp; done)))⟩
    · have HCN := hcn
      have vxl := Bx.out.lt
      have vx0 := (Bx.out.2 0 _ rfl).1
      have vx1 := (Bx.out.2 1 _ rfl).1
      have vx2 := (Bx.out.2 2 _ rfl).1
      have vx3 := (Bx.out.2 3 _ rfl).1
      have vdl := Bd.out.lt
      have vd0 := (Bd.out.2 0 _ rfl).1
      have vd1 := (Bd.out.2 1 _ rfl).1
      have vd2 := (Bd.out.2 2 _ rfl).1
      have vd3 := (Bd.out.2 3 _ rfl).1
      go_wp2_with fail
      go_region_held3 (fun w' => (w'.cell? ⟨w3.heap.size, 0, none⟩ = some (.slice Ax nx cx) ∧ w'.cell? ⟨w3.heap.size, 1, none⟩ = some (.int .i64 (pd + (L.length : Int))) ∧ w'.cell? ⟨w3.heap.size, 2, none⟩ = some (.slice Ax' nx' cx') ∧ w'.cell? ⟨w3.heap.size, 3, none⟩ = some (.int .i64 (qd + 1))) ∧ (w'.cell? ⟨w1.heap.size, 0, none⟩ = some (.slice Ad nd cd) ∧ w'.cell? ⟨w1.heap.size, 1, none⟩ = some (.int .i64 (pd)) ∧ w'.cell? ⟨w1.heap.size, 2, none⟩ = some (.slice Ad' nd' cd') ∧ w'.cell? ⟨w1.heap.size, 3, none⟩ = some (.int .i64 (qd)))) (go_keep)
        (first | (go_at_call 19; (with_reducible refine (begins_same r1.out.drew l1.out.drew hcr BE.out).mono ?_); rintro e wr0 ⟨rfl, hb⟩; (try simp only [World.size_alloc, World.size_setCell, World.size_drew] at hb); have HR0 := Lib.hid hb; have sr0 := hb.size; (try simp only [World.size_alloc, World.size_setCell, World.size_drew] at sr0); have Yx0 := Lib.hid (Bx.out.drew.below hb (by omega)); have Yd0 := Lib.hid (Bd.out.drew.below hb (by omega)); clear hb; have vx0 := (Yx0.out.2 0 _ rfl).1; have vx1 := (Yx0.out.2 1 _ rfl).1; have vx2 := (Yx0.out.2 2 _ rfl).1; have vx3 := (Yx0.out.2 3 _ rfl).1; have vd0 := (Yd0.out.2 0 _ rfl).1; have vd1 := (Yd0.out.2 1 _ rfl).1; have vd2 := (Yd0.out.2 2 _ rfl).1; have vd3 := (Yd0.out.2 3 _ rfl).1) | (go_at_call 18; (with_reducible refine (to_list (RestOf_x (x1.out.drew.below HR0.out (by first | omega | (simp; omega) | (simp; done))) (x2.out.drew.below HR0.out (by first | omega | (simp; omega) | (simp; done))) (by first | omega | (simp; omega) | (simp; done)) (by first | omega | (simp; omega) | (simp; done)) hcx hcx' (by first | omega | (simp; omega) | (simp; done)) (by first | omega | (simp; omega) | (simp; done))) RE.out).mono ?_); rintro e wr1 ⟨As, ns, cs, rfl, hcs, hb, hl⟩; (try simp only [World.size_alloc, World.size_setCell, World.size_drew] at hb hl); have HR1 := Lib.hid hb; have sr1 := hb.size; (try simp only [World.size_alloc, World.size_setCell, World.size_drew] at sr1); have Yx1 := Lib.hid (Yx0.out.below hb (by omega)); have Yd1 := Lib.hid (Yd0.out.below hb (by omega)); have s1 := Lib.hid hl; clear hb hl; have vx0 := (Yx1.out.2 0 _ rfl).1; have vx1 := (Yx1.out.2 1 _ rfl).1; have vx2 := (Yx1.out.2 2 _ rfl).1; have vx3 := (Yx1.out.2 3 _ rfl).1; have vd0 := (Yd1.out.2 0 _ rfl).1; have vd1 := (Yd1.out.2 1 _ rfl).1; have vd2 := (Yd1.out.2 2 _ rfl).1; have vd3 := (Yd1.out.2 3 _ rfl).1) | (go_at_call 17; (with_reducible refine (equalInts_same s1.out (((r1.out.drew.below HR0.out (by first | omega | (simp; omega) | (simp; done))).below HR1.out (by first | omega | (simp; omega) | (simp; done))).drop hlr) rfl).mono ?_); rintro e wr2 ⟨rfl, hb⟩; (try simp only [World.size_alloc, World.size_setCell, World.size_drew] at hb); have HR2 := Lib.hid hb; have sr2 := hb.size; (try simp only [World.size_alloc, World.size_setCell, World.size_drew] at sr2); have Yx2 := Lib.hid (Yx1.out.below hb (by omega)); have Yd2 := Lib.hid (Yd1.out.below hb (by omega)); clear hb; have vx0 := (Yx2.out.2 0 _ rfl).1; have vx1 := (Yx2.out.2 1 _ rfl).1; have vx2 := (Yx2.out.2 2 _ rfl).1; have vx3 := (Yx2.out.2 3 _ rfl).1; have vd0 := (Yd2.out.2 0 _ rfl).1; have vd1 := (Yd2.out.2 1 _ rfl).1; have vd2 := (Yd2.out.2 2 _ rfl).1; have vd3 := (Yd2.out.2 3 _ rfl).1) | (go_at_call 17; (with_reducible refine (equalInts_same (((x1.out.drew.below HR0.out (by first | omega | (simp; omega) | (simp; done))).below HR1.out (by first | omega | (simp; omega) | (simp; done))).below HR2.out (by first | omega | (simp; omega) | (simp; done))) (((d1.out.drew.below HR0.out (by first | omega | (simp; omega) | (simp; done))).below HR1.out (by first | omega | (simp; omega) | (simp; done))).below HR2.out (by first | omega | (simp; omega) | (simp; done))) rfl).mono ?_); rintro e wr3 ⟨rfl, hb⟩; (try simp only [World.size_alloc, World.size_setCell, World.size_drew] at hb); have HR3 := Lib.hid hb; have sr3 := hb.size; (try simp only [World.size_alloc, World.size_setCell, World.size_drew] at sr3); have Yx3 := Lib.hid (Yx2.out.below hb (by omega)); have Yd3 := Lib.hid (Yd2.out.below hb (by omega)); clear hb; have vx0 := (Yx3.out.2 0 _ rfl).1; have vx1 := (Yx3.out.2 1 _ rfl).1; have vx2 := (Yx3.out.2 2 _ rfl).1; have vx3 := (Yx3.out.2 3 _ rfl).1; have vd0 := (Yd3.out.2 0 _ rfl).1; have vd1 := (Yd3.out.2 1 _ rfl).1; have vd2 := (Yd3.out.2 2 _ rfl).1; have vd3 := (Yd3.out.2 3 _ rfl).1))
      go_wp2
      go_ret
      exact ⟨rfl, (below_step HR3.out (below_step HR2.out (below_step HR1.out (below_step HR0.out EB.out.drew (by first | omega | (simp; omega) | (simp; done))) (by first | omega | (simp; omega) | (simp; done))) (by first | omega | (simp; omega) | (simp; done))) (by first | omega | (simp; omega) | (simp; done)))⟩

theorem contract (H : Type) (enc : TypeId × Value → H) (W : World) (base : Nat) (args : Array Value) (ds gs : List (DataW H)) (before : List MemPlace)
    (hval : ∀ (j : Nat) t v, Try.f4.params[j]? = some t → args[j]? = some v → Value.okWide Try.prog W .any base t v)
    (hW : DataW.Whole enc Try.prog Try.f4.params.toList Rows.fnReadDeviceSpec.vars false W args.toList ds gs before) :
    Calls Try.prog 4 args W fun e W' => ∃ v, e = .returned v ∧ Rows.fnReadDeviceSpec.post enc Try.prog Try.f4 false true false false W args v W' := by
  have hW' := hW
  have hlt : ∀ p ∈ before, p.block < W.heap.size := fun p hp => hW.lt p hp
  obtain ⟨p, q, hA0, hV, rfl, hfz, hnd⟩ := hW
  have hA : DataW.TrodAll enc Try.prog W 0 (fun _ => true) true Try.f4.params.toList args.toList ds p := hA0
  rw [Try.params4] at hA hval
  obtain ⟨v0, vs0, d0, ds0, p0, q0, hargs, rfl, rfl, h0, r0⟩ := trodAll_cons hA
  obtain ⟨rfl, rfl, rfl⟩ := trodAll_nil r0
  obtain rfl : args = #[v0] := by cases args; simp_all
  obtain ⟨rfl, rfl⟩ := trodVars_none hV
  obtain ⟨A, n, c, rfl, hnc, hby, hmx⟩ := arg_bytes (hval 0 _ v0 rfl rfl) h0 (fun p hp => hlt p (by simp [hp]))
  refine (walk A n c W hby hnc hmx).mono fun e W' hh => ?_
  obtain ⟨rfl, hb⟩ := hh
  exact ⟨_, rfl, law_post laidOut (tys_of (by rw [Try.params4]; kernel_rfl)) hW' rfl rfl rfl Try.underlying4 hb⟩

set_option maxRecDepth 100000 in
theorem lifted (os : Os) (started : os.Started) (H : Type) (enc : TypeId × Value → H) :
    ReturnsInHanded {} Try.checked os 4 .any (Rows.fnReadDeviceSpec.pre6 enc Try.prog Try.f4 Rows.fnReadDeviceRow.domain false) (Rows.fnReadDeviceSpec.post enc Try.prog Try.f4 false true false false) := by
  refine returnsInHanded_of_change (C := Try.checked) own started (by kernel_rfl) Try.func4
    (ChangeSpec.witness6 (C := Try.checked) false ⟨#[], #[.slice none 0 0], []⟩ 8 (by kernel_rfl) (by kernel_rfl) (by kernel_rfl) (by kernel_rfl)) ?_
  intro W base args ds gs before hval hW _ _
  exact contract H enc W base args ds gs before hval hW

theorem holds : Rows.FnReadDeviceSaid :=
  OpenClaim.holds_of_wide 4 Try.f4 rfl rfl rfl rfl rfl rfl rfl ⟨rfl, rfl, rfl, rfl, rfl⟩ rfl rfl rfl rfl rfl (by kernel_rfl) Try.func4 (by kernel_rfl)
    (of_decide_eq_true (by kernel_rfl)) (by unfold Func.isWrapper; first | (rw [if_pos (by decide +kernel)]; kernel_rfl) | (rw [if_neg (by decide +kernel)]; exact ⟨rfl, rfl⟩))
    (fun os started H enc _ => lifted os started H enc)
end LawReadDevice
end Go.Proofs.Ytlincjmiimmmeaa
