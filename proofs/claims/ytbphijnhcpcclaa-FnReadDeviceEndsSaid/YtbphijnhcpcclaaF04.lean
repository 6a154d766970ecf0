/- The law of promise 04: a call has bytes, at most as many as were asked for, exactly if it ends well, and meets the end only if no byte is ahead. No conditions. -/
import Derived.Test.YtbphijnhcpcclaaK1
import Derived.Test.YtbphijnhcpcclaaG2
set_option maxRecDepth 10000
namespace Go.Proofs.Ytbphijnhcpcclaa
open Go.ChangeShapes Go.WideShapes Go.ChangeAt Go.RowKit
set_option linter.unusedSimpArgs false
set_option linter.unusedVariables false
namespace LawReadDeviceEnds
set_option maxHeartbeats 8000000 in
theorem walk (A : Option Addr) (n c : Nat) (w : World) (h : BytesIn w w.heap.size A n) (hnc : n ≤ c) (hm : n ≤ 9223372036854775807) :
    Calls Try.prog 4 #[.slice A n c] w (BoolB true w) := by
  have HBY := Lib.hid h
  clear h
  have EB := Lib.hid (Below.refl w.heap.size w)
  by_cases hbig : (1048576 : Int) < (n : Int)
  · go_enter Try.func4, Try.ntmps4
    go_wp2
    go_ret
    exact ⟨rfl, Below.refl _ _⟩
  go_enter Try.func4, Try.ntmps4
  go_wp2_with fail
  refine (DrawReadDevice_any HBY.out (by omega) hnc).mono ?_
  rintro e w1 ⟨Ad, nd, cd, Ad', nd', cd', Dd, Sd, pd, qd, zn, rfl, ⟨⟨hcd, hcd'⟩, hb, hd, hd', ⟨hnd, hnd'⟩, hpd, hqd⟩, hzn⟩
  (try simp only [World.size_alloc, World.size_setCell, World.size_drew] at hb)
  have HB := Lib.hid hb
  clear hb
  have s1 := HB.out.size
  (try simp only [World.size_alloc, World.size_setCell, World.size_drew] at s1)
  replace EB := Lib.hid (below_step HB.out EB.out (by omega))
  clear HB
  have d1 := Lib.hid hd
  have d2 := Lib.hid hd'
  clear hd hd' HBY
  go_wp2_with fail
  replace d1 := Lib.hid (d1.out.alloc (by omega) (.cells #[.slice Ad nd cd, .int .i64 (pd), .slice Ad' nd' cd', .int .i64 (qd)] 27))
  replace d2 := Lib.hid (d2.out.alloc (by omega) (.cells #[.slice Ad nd cd, .int .i64 (pd), .slice Ad' nd' cd', .int .i64 (qd)] 27))
  replace EB := Lib.hid (EB.out.alloc (by omega) (.cells #[.slice Ad nd cd, .int .i64 (pd), .slice Ad' nd' cd', .int .i64 (qd)] 27))
  have Bd := Lib.hid (Box.new w1 27 [.slice Ad nd cd, .int .i64 (pd), .slice Ad' nd' cd', .int .i64 (qd)])
  have s2 : w1.heap.size + 1 ≤ (w1.alloc (.cells #[.slice Ad nd cd, .int .i64 (pd), .slice Ad' nd' cd', .int .i64 (qd)] 27)).heap.size := by simp
  generalize w1.alloc (.cells #[.slice Ad nd cd, .int .i64 (pd), .slice Ad' nd' cd', .int .i64 (qd)] 27) = w2 at *
  cases hg : rdGood Dd pd Sd qd zn
  · refine (to_dli (ReadDevice_x d1.out d2.out (by omega) (by omega) hcd hcd' (by omega) (by omega) (by unfold okInt; omega)) (rd_no hg)).mono ?_
    rintro e w3 ⟨Ax, nx, cx, Ax', nx', cx', Al, nl, cl, rfl, ⟨hcx, hcx', hcl⟩, hb, ⟨hd, hd', _, _, _⟩, hl⟩
    (try simp only [World.size_alloc, World.size_setCell, World.size_drew] at hb)
    have HB := Lib.hid hb
    clear hb
    have s3 := HB.out.size
    (try simp only [World.size_alloc, World.size_setCell, World.size_drew] at s3)
    replace d1 := Lib.hid (d1.out.below HB.out (by omega))
    replace d2 := Lib.hid (d2.out.below HB.out (by omega))
    replace Bd := Lib.hid (Bd.out.below HB.out (by omega))
    replace EB := Lib.hid (below_step HB.out EB.out (by omega))
    clear HB
    have l1 := Lib.hid hl
    have x1 := Lib.hid hd
    have x2 := Lib.hid hd'
    clear hd hd' hl
    have hnx : nx ≤ 1048576 := by have h1 := x1.out.len; have h2 := d1.out.len; (try simp only [List.length_nil, cutL_len] at h1); omega
    have hnx' : nx' ≤ 1048576 := by have h1 := x2.out.len; have h2 := d2.out.len; (try simp only [List.length_nil] at h1); omega
    have vdl := Bd.out.lt
    have vd0 := (Bd.out.2 0 _ rfl).1
    have vd1 := (Bd.out.2 1 _ rfl).1
    have vd2 := (Bd.out.2 2 _ rfl).1
    have vd3 := (Bd.out.2 3 _ rfl).1
    go_wp2_with fail
    clear vdl vd0 vd1 vd2 vd3
    replace d1 := Lib.hid (d1.out.alloc (by omega) (.cells #[.slice Ax nx cx, .int .i64 (0), .slice Ax' nx' cx', .int .i64 (0)] 27))
    replace d2 := Lib.hid (d2.out.alloc (by omega) (.cells #[.slice Ax nx cx, .int .i64 (0), .slice Ax' nx' cx', .int .i64 (0)] 27))
    replace Bd := Lib.hid (Bd.out.alloc (.cells #[.slice Ax nx cx, .int .i64 (0), .slice Ax' nx' cx', .int .i64 (0)] 27))
    replace l1 := Lib.hid (l1.out.alloc (by omega) (.cells #[.slice Ax nx cx, .int .i64 (0), .slice Ax' nx' cx', .int .i64 (0)] 27))
    replace x1 := Lib.hid (x1.out.alloc (by omega) (.cells #[.slice Ax nx cx, .int .i64 (0), .slice Ax' nx' cx', .int .i64 (0)] 27))
    replace x2 := Lib.hid (x2.out.alloc (by omega) (.cells #[.slice Ax nx cx, .int .i64 (0), .slice Ax' nx' cx', .int .i64 (0)] 27))
    replace EB := Lib.hid (EB.out.alloc (by omega) (.cells #[.slice Ax nx cx, .int .i64 (0), .slice Ax' nx' cx', .int .i64 (0)] 27))
    have Bx := Lib.hid (Box.new w3 27 [.slice Ax nx cx, .int .i64 (0), .slice Ax' nx' cx', .int .i64 (0)])
    have s4 : w3.heap.size + 1 ≤ (w3.alloc (.cells #[.slice Ax nx cx, .int .i64 (0), .slice Ax' nx' cx', .int .i64 (0)] 27)).heap.size := by simp
    generalize w3.alloc (.cells #[.slice Ax nx cx, .int .i64 (0), .slice Ax' nx' cx', .int .i64 (0)] 27) = w4 at *
    refine (to_dli (SReadDevice_x d1.out d2.out (by omega) (by omega) hcd hcd' (by omega) (by omega) (by unfold okInt; omega)) (rd_no hg)).mono ?_
    rintro e w5 ⟨Ay, ny, cy, Ay', ny', cy', Am, nm, cm, rfl, ⟨hcy, hcy', hcm⟩, hb, ⟨hd, hd', _, _, _⟩, hl⟩
    (try simp only [World.size_alloc, World.size_setCell, World.size_drew] at hb)
    have HB := Lib.hid hb
    clear hb
    have s5 := HB.out.size
    (try simp only [World.size_alloc, World.size_setCell, World.size_drew] at s5)
    replace d1 := Lib.hid (d1.out.below HB.out (by omega))
    replace d2 := Lib.hid (d2.out.below HB.out (by omega))
    replace Bd := Lib.hid (Bd.out.below HB.out (by omega))
    replace l1 := Lib.hid (l1.out.below HB.out (by omega))
    replace x1 := Lib.hid (x1.out.below HB.out (by omega))
    replace x2 := Lib.hid (x2.out.below HB.out (by omega))
    replace Bx := Lib.hid (Bx.out.below HB.out (by omega))
    replace EB := Lib.hid (below_step HB.out EB.out (by omega))
    clear HB
    have m1 := Lib.hid hl
    have y1 := Lib.hid hd
    have y2 := Lib.hid hd'
    clear hd hd' hl
    have hny : ny ≤ 1048576 := by have h1 := y1.out.len; have h2 := d1.out.len; (try simp only [List.length_nil, cutL_len] at h1); omega
    have hny' : ny' ≤ 1048576 := by have h1 := y2.out.len; have h2 := d2.out.len; (try simp only [List.length_nil] at h1); omega
    have vxl := Bx.out.lt
    have vx0 := (Bx.out.2 0 _ rfl).1
    have vx1 := (Bx.out.2 1 _ rfl).1
    have vx2 := (Bx.out.2 2 _ rfl).1
    have vx3 := (Bx.out.2 3 _ rfl).1
    go_wp2_with fail
    clear vxl vx0 vx1 vx2 vx3
    replace d1 := Lib.hid (d1.out.alloc (by omega) (.cells #[.slice Ay ny cy, .int .i64 (0), .slice Ay' ny' cy', .int .i64 (0)] 27))
    replace d2 := Lib.hid (d2.out.alloc (by omega) (.cells #[.slice Ay ny cy, .int .i64 (0), .slice Ay' ny' cy', .int .i64 (0)] 27))
    replace Bd := Lib.hid (Bd.out.alloc (.cells #[.slice Ay ny cy, .int .i64 (0), .slice Ay' ny' cy', .int .i64 (0)] 27))
    replace l1 := Lib.hid (l1.out.alloc (by omega) (.cells #[.slice Ay ny cy, .int .i64 (0), .slice Ay' ny' cy', .int .i64 (0)] 27))
    replace x1 := Lib.hid (x1.out.alloc (by omega) (.cells #[.slice Ay ny cy, .int .i64 (0), .slice Ay' ny' cy', .int .i64 (0)] 27))
    replace x2 := Lib.hid (x2.out.alloc (by omega) (.cells #[.slice Ay ny cy, .int .i64 (0), .slice Ay' ny' cy', .int .i64 (0)] 27))
    replace Bx := Lib.hid (Bx.out.alloc (.cells #[.slice Ay ny cy, .int .i64 (0), .slice Ay' ny' cy', .int .i64 (0)] 27))
    replace m1 := Lib.hid (m1.out.alloc (by omega) (.cells #[.slice Ay ny cy, .int .i64 (0), .slice Ay' ny' cy', .int .i64 (0)] 27))
    replace y1 := Lib.hid (y1.out.alloc (by omega) (.cells #[.slice Ay ny cy, .int .i64 (0), .slice Ay' ny' cy', .int .i64 (0)] 27))
    replace y2 := Lib.hid (y2.out.alloc (by omega) (.cells #[.slice Ay ny cy, .int .i64 (0), .slice Ay' ny' cy', .int .i64 (0)] 27))
    replace EB := Lib.hid (EB.out.alloc (by omega) (.cells #[.slice Ay ny cy, .int .i64 (0), .slice Ay' ny' cy', .int .i64 (0)] 27))
    have By := Lib.hid (Box.new w5 27 [.slice Ay ny cy, .int .i64 (0), .slice Ay' ny' cy', .int .i64 (0)])
    have s6 : w5.heap.size + 1 ≤ (w5.alloc (.cells #[.slice Ay ny cy, .int .i64 (0), .slice Ay' ny' cy', .int .i64 (0)] 27)).heap.size := by simp
    generalize w5.alloc (.cells #[.slice Ay ny cy, .int .i64 (0), .slice Ay' ny' cy', .int .i64 (0)] 27) = w6 at *
    refine (equalDevice_same x1.out x2.out y1.out y2.out (by omega) (by omega) (by omega) (by omega)).mono ?_
    rintro e w7 ⟨rfl, hb⟩
    (try simp only [World.size_alloc, World.size_setCell, World.size_drew] at hb)
    have HB := Lib.hid hb
    clear hb
    have s7 := HB.out.size
    (try simp only [World.size_alloc, World.size_setCell, World.size_drew] at s7)
    replace d1 := Lib.hid (d1.out.below HB.out (by omega))
    replace d2 := Lib.hid (d2.out.below HB.out (by omega))
    replace Bd := Lib.hid (Bd.out.below HB.out (by omega))
    replace l1 := Lib.hid (l1.out.below HB.out (by omega))
    replace x1 := Lib.hid (x1.out.below HB.out (by omega))
    replace x2 := Lib.hid (x2.out.below HB.out (by omega))
    replace Bx := Lib.hid (Bx.out.below HB.out (by omega))
    replace m1 := Lib.hid (m1.out.below HB.out (by omega))
    replace y1 := Lib.hid (y1.out.below HB.out (by omega))
    replace y2 := Lib.hid (y2.out.below HB.out (by omega))
    replace By := Lib.hid (By.out.below HB.out (by omega))
    replace EB := Lib.hid (below_step HB.out EB.out (by omega))
    clear HB
    go_wp2_with fail
    refine (equalInts_same l1.out m1.out rfl).mono ?_
    rintro e w8 ⟨rfl, hb⟩
    (try simp only [World.size_alloc, World.size_setCell, World.size_drew] at hb)
    have HB := Lib.hid hb
    clear hb
    have s8 := HB.out.size
    (try simp only [World.size_alloc, World.size_setCell, World.size_drew] at s8)
    replace d1 := Lib.hid (d1.out.below HB.out (by omega))
    replace d2 := Lib.hid (d2.out.below HB.out (by omega))
    replace Bd := Lib.hid (Bd.out.below HB.out (by omega))
    replace l1 := Lib.hid (l1.out.below HB.out (by omega))
    replace x1 := Lib.hid (x1.out.below HB.out (by omega))
    replace x2 := Lib.hid (x2.out.below HB.out (by omega))
    replace Bx := Lib.hid (Bx.out.below HB.out (by omega))
    replace m1 := Lib.hid (m1.out.below HB.out (by omega))
    replace y1 := Lib.hid (y1.out.below HB.out (by omega))
    replace y2 := Lib.hid (y2.out.below HB.out (by omega))
    replace By := Lib.hid (By.out.below HB.out (by omega))
    replace EB := Lib.hid (below_step HB.out EB.out (by omega))
    clear HB
    have vxl := Bx.out.lt
    have vx0 := (Bx.out.2 0 _ rfl).1
    have vx1 := (Bx.out.2 1 _ rfl).1
    have vx2 := (Bx.out.2 2 _ rfl).1
    have vx3 := (Bx.out.2 3 _ rfl).1
    have vyl := By.out.lt
    have vy0 := (By.out.2 0 _ rfl).1
    have vy1 := (By.out.2 1 _ rfl).1
    have vy2 := (By.out.2 2 _ rfl).1
    have vy3 := (By.out.2 3 _ rfl).1
    go_wp2_with fail
    refine (equalDevice_same x1.out x2.out y1.out y2.out (by omega) (by omega) (by omega) (by omega)).mono ?_
    clear vxl vx0 vx1 vx2 vx3 vyl vy0 vy1 vy2 vy3
    rintro e w9 ⟨rfl, hb⟩
    (try simp only [World.size_alloc, World.size_setCell, World.size_drew] at hb)
    have HB := Lib.hid hb
    clear hb
    have s9 := HB.out.size
    (try simp only [World.size_alloc, World.size_setCell, World.size_drew] at s9)
    replace d1 := Lib.hid (d1.out.below HB.out (by omega))
    replace d2 := Lib.hid (d2.out.below HB.out (by omega))
    replace Bd := Lib.hid (Bd.out.below HB.out (by omega))
    replace l1 := Lib.hid (l1.out.below HB.out (by omega))
    replace x1 := Lib.hid (x1.out.below HB.out (by omega))
    replace x2 := Lib.hid (x2.out.below HB.out (by omega))
    replace Bx := Lib.hid (Bx.out.below HB.out (by omega))
    replace m1 := Lib.hid (m1.out.below HB.out (by omega))
    replace y1 := Lib.hid (y1.out.below HB.out (by omega))
    replace y2 := Lib.hid (y2.out.below HB.out (by omega))
    replace By := Lib.hid (By.out.below HB.out (by omega))
    replace EB := Lib.hid (below_step HB.out EB.out (by omega))
    clear HB
    go_wp2_with fail
    refine (equalInts_same l1.out m1.out rfl).mono ?_
    rintro e w10 ⟨rfl, hb⟩
    (try simp only [World.size_alloc, World.size_setCell, World.size_drew] at hb)
    have HB := Lib.hid hb
    clear hb
    have s10 := HB.out.size
    (try simp only [World.size_alloc, World.size_setCell, World.size_drew] at s10)
    replace d1 := Lib.hid (d1.out.below HB.out (by omega))
    replace d2 := Lib.hid (d2.out.below HB.out (by omega))
    replace Bd := Lib.hid (Bd.out.below HB.out (by omega))
    replace l1 := Lib.hid (l1.out.below HB.out (by omega))
    replace x1 := Lib.hid (x1.out.below HB.out (by omega))
    replace x2 := Lib.hid (x2.out.below HB.out (by omega))
    replace Bx := Lib.hid (Bx.out.below HB.out (by omega))
    replace m1 := Lib.hid (m1.out.below HB.out (by omega))
    replace y1 := Lib.hid (y1.out.below HB.out (by omega))
    replace y2 := Lib.hid (y2.out.below HB.out (by omega))
    replace By := Lib.hid (By.out.below HB.out (by omega))
    replace EB := Lib.hid (below_step HB.out EB.out (by omega))
    clear HB
    go_wp2
    go_ret
    exact ⟨rfl, EB.out⟩
  · obtain ⟨hv, hq, hN1, hN2⟩ := rdGood_iff.1 hg
    obtain ⟨st, hst, hhow⟩ := rd_how hg
    have hol := (rd_of hg).trans (by rw [hst])
    have hle := rdL_le Dd pd (mayAt Sd qd.toNat) zn (by omega)
    obtain ⟨L, hL⟩ : ∃ L, rdL Dd pd (mayAt Sd qd.toNat) zn = L := ⟨_, rfl⟩
    rw [hL] at hol hhow hle
    have HLE := Lib.hid hle
    clear hle
    rcases hhow with ⟨hst0, hl0⟩ | ⟨hst0, hl0, hend⟩ | ⟨hst0 | hst0, hl0⟩
    · subst hst0
      have hz0 : (0 : Int) ≤ zn := by omega
      have HL0 := Lib.hid hl0
      clear hl0
      refine (to_dli (ReadDevice_x d1.out d2.out (by omega) (by omega) hcd hcd' (by omega) (by omega) (by unfold okInt; omega)) hol).mono ?_
      rintro e w3 ⟨Ax, nx, cx, Ax', nx', cx', Al, nl, cl, rfl, ⟨hcx, hcx', hcl⟩, hb, ⟨hd, hd', _, _, _⟩, hl⟩
      (try simp only [World.size_alloc, World.size_setCell, World.size_drew] at hb)
      have HB := Lib.hid hb
      clear hb
      have s3 := HB.out.size
      (try simp only [World.size_alloc, World.size_setCell, World.size_drew] at s3)
      replace d1 := Lib.hid (d1.out.below HB.out (by omega))
      replace d2 := Lib.hid (d2.out.below HB.out (by omega))
      replace Bd := Lib.hid (Bd.out.below HB.out (by omega))
      replace EB := Lib.hid (below_step HB.out EB.out (by omega))
      clear HB
      have l1 := Lib.hid hl
      have x1 := Lib.hid hd
      have x2 := Lib.hid hd'
      clear hd hd' hl
      have hnx : nx ≤ 1048576 := by have h1 := x1.out.len; have h2 := d1.out.len; (try simp only [List.length_nil, cutL_len] at h1); omega
      have hnx' : nx' ≤ 1048576 := by have h1 := x2.out.len; have h2 := d2.out.len; (try simp only [List.length_nil] at h1); omega
      have vdl := Bd.out.lt
      have vd0 := (Bd.out.2 0 _ rfl).1
      have vd1 := (Bd.out.2 1 _ rfl).1
      have vd2 := (Bd.out.2 2 _ rfl).1
      have vd3 := (Bd.out.2 3 _ rfl).1
      go_wp2_with fail
      clear vdl vd0 vd1 vd2 vd3
      replace d1 := Lib.hid (d1.out.alloc (by omega) (.cells #[.slice Ax nx cx, .int .i64 (pd + (L.length : Int)), .slice Ax' nx' cx', .int .i64 (qd + 1)] 27))
      replace d2 := Lib.hid (d2.out.alloc (by omega) (.cells #[.slice Ax nx cx, .int .i64 (pd + (L.length : Int)), .slice Ax' nx' cx', .int .i64 (qd + 1)] 27))
      replace Bd := Lib.hid (Bd.out.alloc (.cells #[.slice Ax nx cx, .int .i64 (pd + (L.length : Int)), .slice Ax' nx' cx', .int .i64 (qd + 1)] 27))
      replace l1 := Lib.hid (l1.out.alloc (by omega) (.cells #[.slice Ax nx cx, .int .i64 (pd + (L.length : Int)), .slice Ax' nx' cx', .int .i64 (qd + 1)] 27))
      replace x1 := Lib.hid (x1.out.alloc (by omega) (.cells #[.slice Ax nx cx, .int .i64 (pd + (L.length : Int)), .slice Ax' nx' cx', .int .i64 (qd + 1)] 27))
      replace x2 := Lib.hid (x2.out.alloc (by omega) (.cells #[.slice Ax nx cx, .int .i64 (pd + (L.length : Int)), .slice Ax' nx' cx', .int .i64 (qd + 1)] 27))
      replace EB := Lib.hid (EB.out.alloc (by omega) (.cells #[.slice Ax nx cx, .int .i64 (pd + (L.length : Int)), .slice Ax' nx' cx', .int .i64 (qd + 1)] 27))
      have Bx := Lib.hid (Box.new w3 27 [.slice Ax nx cx, .int .i64 (pd + (L.length : Int)), .slice Ax' nx' cx', .int .i64 (qd + 1)])
      have s4 : w3.heap.size + 1 ≤ (w3.alloc (.cells #[.slice Ax nx cx, .int .i64 (pd + (L.length : Int)), .slice Ax' nx' cx', .int .i64 (qd + 1)] 27)).heap.size := by simp
      generalize w3.alloc (.cells #[.slice Ax nx cx, .int .i64 (pd + (L.length : Int)), .slice Ax' nx' cx', .int .i64 (qd + 1)] 27) = w4 at *
      refine (to_dli (SReadDevice_x d1.out d2.out (by omega) (by omega) hcd hcd' (by omega) (by omega) (by unfold okInt; omega)) hol).mono ?_
      rintro e w5 ⟨Ay, ny, cy, Ay', ny', cy', Am, nm, cm, rfl, ⟨hcy, hcy', hcm⟩, hb, ⟨hd, hd', _, _, _⟩, hl⟩
      (try simp only [World.size_alloc, World.size_setCell, World.size_drew] at hb)
      have HB := Lib.hid hb
      clear hb
      have s5 := HB.out.size
      (try simp only [World.size_alloc, World.size_setCell, World.size_drew] at s5)
      replace d1 := Lib.hid (d1.out.below HB.out (by omega))
      replace d2 := Lib.hid (d2.out.below HB.out (by omega))
      replace Bd := Lib.hid (Bd.out.below HB.out (by omega))
      replace l1 := Lib.hid (l1.out.below HB.out (by omega))
      replace x1 := Lib.hid (x1.out.below HB.out (by omega))
      replace x2 := Lib.hid (x2.out.below HB.out (by omega))
      replace Bx := Lib.hid (Bx.out.below HB.out (by omega))
      replace EB := Lib.hid (below_step HB.out EB.out (by omega))
      clear HB
      have m1 := Lib.hid hl
      have y1 := Lib.hid hd
      have y2 := Lib.hid hd'
      clear hd hd' hl
      have hny : ny ≤ 1048576 := by have h1 := y1.out.len; have h2 := d1.out.len; (try simp only [List.length_nil, cutL_len] at h1); omega
      have hny' : ny' ≤ 1048576 := by have h1 := y2.out.len; have h2 := d2.out.len; (try simp only [List.length_nil] at h1); omega
      have vxl := Bx.out.lt
      have vx0 := (Bx.out.2 0 _ rfl).1
      have vx1 := (Bx.out.2 1 _ rfl).1
      have vx2 := (Bx.out.2 2 _ rfl).1
      have vx3 := (Bx.out.2 3 _ rfl).1
      go_wp2_with fail
      clear vxl vx0 vx1 vx2 vx3
      replace d1 := Lib.hid (d1.out.alloc (by omega) (.cells #[.slice Ay ny cy, .int .i64 (pd + (L.length : Int)), .slice Ay' ny' cy', .int .i64 (qd + 1)] 27))
      replace d2 := Lib.hid (d2.out.alloc (by omega) (.cells #[.slice Ay ny cy, .int .i64 (pd + (L.length : Int)), .slice Ay' ny' cy', .int .i64 (qd + 1)] 27))
      replace Bd := Lib.hid (Bd.out.alloc (.cells #[.slice Ay ny cy, .int .i64 (pd + (L.length : Int)), .slice Ay' ny' cy', .int .i64 (qd + 1)] 27))
      replace l1 := Lib.hid (l1.out.alloc (by omega) (.cells #[.slice Ay ny cy, .int .i64 (pd + (L.length : Int)), .slice Ay' ny' cy', .int .i64 (qd + 1)] 27))
      replace x1 := Lib.hid (x1.out.alloc (by omega) (.cells #[.slice Ay ny cy, .int .i64 (pd + (L.length : Int)), .slice Ay' ny' cy', .int .i64 (qd + 1)] 27))
      replace x2 := Lib.hid (x2.out.alloc (by omega) (.cells #[.slice Ay ny cy, .int .i64 (pd + (L.length : Int)), .slice Ay' ny' cy', .int .i64 (qd + 1)] 27))
      replace Bx := Lib.hid (Bx.out.alloc (.cells #[.slice Ay ny cy, .int .i64 (pd + (L.length : Int)), .slice Ay' ny' cy', .int .i64 (qd + 1)] 27))
      replace m1 := Lib.hid (m1.out.alloc (by omega) (.cells #[.slice Ay ny cy, .int .i64 (pd + (L.length : Int)), .slice Ay' ny' cy', .int .i64 (qd + 1)] 27))
      replace y1 := Lib.hid (y1.out.alloc (by omega) (.cells #[.slice Ay ny cy, .int .i64 (pd + (L.length : Int)), .slice Ay' ny' cy', .int .i64 (qd + 1)] 27))
      replace y2 := Lib.hid (y2.out.alloc (by omega) (.cells #[.slice Ay ny cy, .int .i64 (pd + (L.length : Int)), .slice Ay' ny' cy', .int .i64 (qd + 1)] 27))
      replace EB := Lib.hid (EB.out.alloc (by omega) (.cells #[.slice Ay ny cy, .int .i64 (pd + (L.length : Int)), .slice Ay' ny' cy', .int .i64 (qd + 1)] 27))
      have By := Lib.hid (Box.new w5 27 [.slice Ay ny cy, .int .i64 (pd + (L.length : Int)), .slice Ay' ny' cy', .int .i64 (qd + 1)])
      have s6 : w5.heap.size + 1 ≤ (w5.alloc (.cells #[.slice Ay ny cy, .int .i64 (pd + (L.length : Int)), .slice Ay' ny' cy', .int .i64 (qd + 1)] 27)).heap.size := by simp
      generalize w5.alloc (.cells #[.slice Ay ny cy, .int .i64 (pd + (L.length : Int)), .slice Ay' ny' cy', .int .i64 (qd + 1)] 27) = w6 at *
      refine (equalDevice_same x1.out x2.out y1.out y2.out (by omega) (by omega) (by omega) (by omega)).mono ?_
      rintro e w7 ⟨rfl, hb⟩
      (try simp only [World.size_alloc, World.size_setCell, World.size_drew] at hb)
      have HB := Lib.hid hb
      clear hb
      have s7 := HB.out.size
      (try simp only [World.size_alloc, World.size_setCell, World.size_drew] at s7)
      replace d1 := Lib.hid (d1.out.below HB.out (by omega))
      replace d2 := Lib.hid (d2.out.below HB.out (by omega))
      replace Bd := Lib.hid (Bd.out.below HB.out (by omega))
      replace l1 := Lib.hid (l1.out.below HB.out (by omega))
      replace x1 := Lib.hid (x1.out.below HB.out (by omega))
      replace x2 := Lib.hid (x2.out.below HB.out (by omega))
      replace Bx := Lib.hid (Bx.out.below HB.out (by omega))
      replace m1 := Lib.hid (m1.out.below HB.out (by omega))
      replace y1 := Lib.hid (y1.out.below HB.out (by omega))
      replace y2 := Lib.hid (y2.out.below HB.out (by omega))
      replace By := Lib.hid (By.out.below HB.out (by omega))
      replace EB := Lib.hid (below_step HB.out EB.out (by omega))
      clear HB
      go_wp2_with fail
      refine (equalInts_same l1.out m1.out rfl).mono ?_
      rintro e w8 ⟨rfl, hb⟩
      (try simp only [World.size_alloc, World.size_setCell, World.size_drew] at hb)
      have HB := Lib.hid hb
      clear hb
      have s8 := HB.out.size
      (try simp only [World.size_alloc, World.size_setCell, World.size_drew] at s8)
      replace d1 := Lib.hid (d1.out.below HB.out (by omega))
      replace d2 := Lib.hid (d2.out.below HB.out (by omega))
      replace Bd := Lib.hid (Bd.out.below HB.out (by omega))
      replace l1 := Lib.hid (l1.out.below HB.out (by omega))
      replace x1 := Lib.hid (x1.out.below HB.out (by omega))
      replace x2 := Lib.hid (x2.out.below HB.out (by omega))
      replace Bx := Lib.hid (Bx.out.below HB.out (by omega))
      replace m1 := Lib.hid (m1.out.below HB.out (by omega))
      replace y1 := Lib.hid (y1.out.below HB.out (by omega))
      replace y2 := Lib.hid (y2.out.below HB.out (by omega))
      replace By := Lib.hid (By.out.below HB.out (by omega))
      replace EB := Lib.hid (below_step HB.out EB.out (by omega))
      clear HB
      have hnl : 0 < nl := by have h1 := l1.out.len; have h2 := HL0.out; omega
      have hnz : (nl : Int) ≤ zn := by have h1 := l1.out.len; have h2 := HLE.out; omega
      go_wp2
      go_ret
      exact ⟨rfl, EB.out⟩
    · subst hst0
      have hz0 : (0 : Int) ≤ zn := by omega
      have HL0 := Lib.hid hl0
      clear hl0
      refine (to_dli (ReadDevice_x d1.out d2.out (by omega) (by omega) hcd hcd' (by omega) (by omega) (by unfold okInt; omega)) hol).mono ?_
      rintro e w3 ⟨Ax, nx, cx, Ax', nx', cx', Al, nl, cl, rfl, ⟨hcx, hcx', hcl⟩, hb, ⟨hd, hd', _, _, _⟩, hl⟩
      (try simp only [World.size_alloc, World.size_setCell, World.size_drew] at hb)
      have HB := Lib.hid hb
      clear hb
      have s3 := HB.out.size
      (try simp only [World.size_alloc, World.size_setCell, World.size_drew] at s3)
      replace d1 := Lib.hid (d1.out.below HB.out (by omega))
      replace d2 := Lib.hid (d2.out.below HB.out (by omega))
      replace Bd := Lib.hid (Bd.out.below HB.out (by omega))
      replace EB := Lib.hid (below_step HB.out EB.out (by omega))
      clear HB
      have l1 := Lib.hid hl
      have x1 := Lib.hid hd
      have x2 := Lib.hid hd'
      clear hd hd' hl
      have hnx : nx ≤ 1048576 := by have h1 := x1.out.len; have h2 := d1.out.len; (try simp only [List.length_nil, cutL_len] at h1); omega
      have hnx' : nx' ≤ 1048576 := by have h1 := x2.out.len; have h2 := d2.out.len; (try simp only [List.length_nil] at h1); omega
      have vdl := Bd.out.lt
      have vd0 := (Bd.out.2 0 _ rfl).1
      have vd1 := (Bd.out.2 1 _ rfl).1
      have vd2 := (Bd.out.2 2 _ rfl).1
      have vd3 := (Bd.out.2 3 _ rfl).1
      go_wp2_with fail
      clear vdl vd0 vd1 vd2 vd3
      replace d1 := Lib.hid (d1.out.alloc (by omega) (.cells #[.slice Ax nx cx, .int .i64 (pd + (L.length : Int)), .slice Ax' nx' cx', .int .i64 (qd + 1)] 27))
      replace d2 := Lib.hid (d2.out.alloc (by omega) (.cells #[.slice Ax nx cx, .int .i64 (pd + (L.length : Int)), .slice Ax' nx' cx', .int .i64 (qd + 1)] 27))
      replace Bd := Lib.hid (Bd.out.alloc (.cells #[.slice Ax nx cx, .int .i64 (pd + (L.length : Int)), .slice Ax' nx' cx', .int .i64 (qd + 1)] 27))
      replace l1 := Lib.hid (l1.out.alloc (by omega) (.cells #[.slice Ax nx cx, .int .i64 (pd + (L.length : Int)), .slice Ax' nx' cx', .int .i64 (qd + 1)] 27))
      replace x1 := Lib.hid (x1.out.alloc (by omega) (.cells #[.slice Ax nx cx, .int .i64 (pd + (L.length : Int)), .slice Ax' nx' cx', .int .i64 (qd + 1)] 27))
      replace x2 := Lib.hid (x2.out.alloc (by omega) (.cells #[.slice Ax nx cx, .int .i64 (pd + (L.length : Int)), .slice Ax' nx' cx', .int .i64 (qd + 1)] 27))
      replace EB := Lib.hid (EB.out.alloc (by omega) (.cells #[.slice Ax nx cx, .int .i64 (pd + (L.length : Int)), .slice Ax' nx' cx', .int .i64 (qd + 1)] 27))
      have Bx := Lib.hid (Box.new w3 27 [.slice Ax nx cx, .int .i64 (pd + (L.length : Int)), .slice Ax' nx' cx', .int .i64 (qd + 1)])
      have s4 : w3.heap.size + 1 ≤ (w3.alloc (.cells #[.slice Ax nx cx, .int .i64 (pd + (L.length : Int)), .slice Ax' nx' cx', .int .i64 (qd + 1)] 27)).heap.size := by simp
      generalize w3.alloc (.cells #[.slice Ax nx cx, .int .i64 (pd + (L.length : Int)), .slice Ax' nx' cx', .int .i64 (qd + 1)] 27) = w4 at *
      refine (to_dli (SReadDevice_x d1.out d2.out (by omega) (by omega) hcd hcd' (by omega) (by omega) (by unfold okInt; omega)) hol).mono ?_
      rintro e w5 ⟨Ay, ny, cy, Ay', ny', cy', Am, nm, cm, rfl, ⟨hcy, hcy', hcm⟩, hb, ⟨hd, hd', _, _, _⟩, hl⟩
      (try simp only [World.size_alloc, World.size_setCell, World.size_drew] at hb)
      have HB := Lib.hid hb
      clear hb
      have s5 := HB.out.size
      (try simp only [World.size_alloc, World.size_setCell, World.size_drew] at s5)
      replace d1 := Lib.hid (d1.out.below HB.out (by omega))
      replace d2 := Lib.hid (d2.out.below HB.out (by omega))
      replace Bd := Lib.hid (Bd.out.below HB.out (by omega))
      replace l1 := Lib.hid (l1.out.below HB.out (by omega))
      replace x1 := Lib.hid (x1.out.below HB.out (by omega))
      replace x2 := Lib.hid (x2.out.below HB.out (by omega))
      replace Bx := Lib.hid (Bx.out.below HB.out (by omega))
      replace EB := Lib.hid (below_step HB.out EB.out (by omega))
      clear HB
      have m1 := Lib.hid hl
      have y1 := Lib.hid hd
      have y2 := Lib.hid hd'
      clear hd hd' hl
      have hny : ny ≤ 1048576 := by have h1 := y1.out.len; have h2 := d1.out.len; (try simp only [List.length_nil, cutL_len] at h1); omega
      have hny' : ny' ≤ 1048576 := by have h1 := y2.out.len; have h2 := d2.out.len; (try simp only [List.length_nil] at h1); omega
      have vxl := Bx.out.lt
      have vx0 := (Bx.out.2 0 _ rfl).1
      have vx1 := (Bx.out.2 1 _ rfl).1
      have vx2 := (Bx.out.2 2 _ rfl).1
      have vx3 := (Bx.out.2 3 _ rfl).1
      go_wp2_with fail
      clear vxl vx0 vx1 vx2 vx3
      replace d1 := Lib.hid (d1.out.alloc (by omega) (.cells #[.slice Ay ny cy, .int .i64 (pd + (L.length : Int)), .slice Ay' ny' cy', .int .i64 (qd + 1)] 27))
      replace d2 := Lib.hid (d2.out.alloc (by omega) (.cells #[.slice Ay ny cy, .int .i64 (pd + (L.length : Int)), .slice Ay' ny' cy', .int .i64 (qd + 1)] 27))
      replace Bd := Lib.hid (Bd.out.alloc (.cells #[.slice Ay ny cy, .int .i64 (pd + (L.length : Int)), .slice Ay' ny' cy', .int .i64 (qd + 1)] 27))
      replace l1 := Lib.hid (l1.out.alloc (by omega) (.cells #[.slice Ay ny cy, .int .i64 (pd + (L.length : Int)), .slice Ay' ny' cy', .int .i64 (qd + 1)] 27))
      replace x1 := Lib.hid (x1.out.alloc (by omega) (.cells #[.slice Ay ny cy, .int .i64 (pd + (L.length : Int)), .slice Ay' ny' cy', .int .i64 (qd + 1)] 27))
      replace x2 := Lib.hid (x2.out.alloc (by omega) (.cells #[.slice Ay ny cy, .int .i64 (pd + (L.length : Int)), .slice Ay' ny' cy', .int .i64 (qd + 1)] 27))
      replace Bx := Lib.hid (Bx.out.alloc (.cells #[.slice Ay ny cy, .int .i64 (pd + (L.length : Int)), .slice Ay' ny' cy', .int .i64 (qd + 1)] 27))
      replace m1 := Lib.hid (m1.out.alloc (by omega) (.cells #[.slice Ay ny cy, .int .i64 (pd + (L.length : Int)), .slice Ay' ny' cy', .int .i64 (qd + 1)] 27))
      replace y1 := Lib.hid (y1.out.alloc (by omega) (.cells #[.slice Ay ny cy, .int .i64 (pd + (L.length : Int)), .slice Ay' ny' cy', .int .i64 (qd + 1)] 27))
      replace y2 := Lib.hid (y2.out.alloc (by omega) (.cells #[.slice Ay ny cy, .int .i64 (pd + (L.length : Int)), .slice Ay' ny' cy', .int .i64 (qd + 1)] 27))
      replace EB := Lib.hid (EB.out.alloc (by omega) (.cells #[.slice Ay ny cy, .int .i64 (pd + (L.length : Int)), .slice Ay' ny' cy', .int .i64 (qd + 1)] 27))
      have By := Lib.hid (Box.new w5 27 [.slice Ay ny cy, .int .i64 (pd + (L.length : Int)), .slice Ay' ny' cy', .int .i64 (qd + 1)])
      have s6 : w5.heap.size + 1 ≤ (w5.alloc (.cells #[.slice Ay ny cy, .int .i64 (pd + (L.length : Int)), .slice Ay' ny' cy', .int .i64 (qd + 1)] 27)).heap.size := by simp
      generalize w5.alloc (.cells #[.slice Ay ny cy, .int .i64 (pd + (L.length : Int)), .slice Ay' ny' cy', .int .i64 (qd + 1)] 27) = w6 at *
      refine (equalDevice_same x1.out x2.out y1.out y2.out (by omega) (by omega) (by omega) (by omega)).mono ?_
      rintro e w7 ⟨rfl, hb⟩
      (try simp only [World.size_alloc, World.size_setCell, World.size_drew] at hb)
      have HB := Lib.hid hb
      clear hb
      have s7 := HB.out.size
      (try simp only [World.size_alloc, World.size_setCell, World.size_drew] at s7)
      replace d1 := Lib.hid (d1.out.below HB.out (by omega))
      replace d2 := Lib.hid (d2.out.below HB.out (by omega))
      replace Bd := Lib.hid (Bd.out.below HB.out (by omega))
      replace l1 := Lib.hid (l1.out.below HB.out (by omega))
      replace x1 := Lib.hid (x1.out.below HB.out (by omega))
      replace x2 := Lib.hid (x2.out.below HB.out (by omega))
      replace Bx := Lib.hid (Bx.out.below HB.out (by omega))
      replace m1 := Lib.hid (m1.out.below HB.out (by omega))
      replace y1 := Lib.hid (y1.out.below HB.out (by omega))
      replace y2 := Lib.hid (y2.out.below HB.out (by omega))
      replace By := Lib.hid (By.out.below HB.out (by omega))
      replace EB := Lib.hid (below_step HB.out EB.out (by omega))
      clear HB
      go_wp2_with fail
      refine (equalInts_same l1.out m1.out rfl).mono ?_
      rintro e w8 ⟨rfl, hb⟩
      (try simp only [World.size_alloc, World.size_setCell, World.size_drew] at hb)
      have HB := Lib.hid hb
      clear hb
      have s8 := HB.out.size
      (try simp only [World.size_alloc, World.size_setCell, World.size_drew] at s8)
      replace d1 := Lib.hid (d1.out.below HB.out (by omega))
      replace d2 := Lib.hid (d2.out.below HB.out (by omega))
      replace Bd := Lib.hid (Bd.out.below HB.out (by omega))
      replace l1 := Lib.hid (l1.out.below HB.out (by omega))
      replace x1 := Lib.hid (x1.out.below HB.out (by omega))
      replace x2 := Lib.hid (x2.out.below HB.out (by omega))
      replace Bx := Lib.hid (Bx.out.below HB.out (by omega))
      replace m1 := Lib.hid (m1.out.below HB.out (by omega))
      replace y1 := Lib.hid (y1.out.below HB.out (by omega))
      replace y2 := Lib.hid (y2.out.below HB.out (by omega))
      replace By := Lib.hid (By.out.below HB.out (by omega))
      replace EB := Lib.hid (below_step HB.out EB.out (by omega))
      clear HB
      have hnl : nl = 0 := by have h1 := l1.out.len; have h2 := HL0.out; omega
      subst hnl
      have vdl := Bd.out.lt
      have vd0 := (Bd.out.2 0 _ rfl).1
      have vd1 := (Bd.out.2 1 _ rfl).1
      have vd2 := (Bd.out.2 2 _ rfl).1
      have vd3 := (Bd.out.2 3 _ rfl).1
      go_wp2_with fail
      refine (to_list (RestOf_x d1.out d2.out (by omega) (by omega) hcd hcd' (by omega) (by omega)) (rest_of hv)).mono ?_
      clear vdl vd0 vd1 vd2 vd3
      rintro e w9 ⟨Ar, nr, cr, rfl, hcr, hb, hl⟩
      (try simp only [World.size_alloc, World.size_setCell, World.size_drew] at hb)
      have HB := Lib.hid hb
      clear hb
      have s9 := HB.out.size
      (try simp only [World.size_alloc, World.size_setCell, World.size_drew] at s9)
      replace d1 := Lib.hid (d1.out.below HB.out (by omega))
      replace d2 := Lib.hid (d2.out.below HB.out (by omega))
      replace Bd := Lib.hid (Bd.out.below HB.out (by omega))
      replace l1 := Lib.hid (l1.out.below HB.out (by omega))
      replace x1 := Lib.hid (x1.out.below HB.out (by omega))
      replace x2 := Lib.hid (x2.out.below HB.out (by omega))
      replace Bx := Lib.hid (Bx.out.below HB.out (by omega))
      replace m1 := Lib.hid (m1.out.below HB.out (by omega))
      replace y1 := Lib.hid (y1.out.below HB.out (by omega))
      replace y2 := Lib.hid (y2.out.below HB.out (by omega))
      replace By := Lib.hid (By.out.below HB.out (by omega))
      replace EB := Lib.hid (below_step HB.out EB.out (by omega))
      clear HB
      have r1 := Lib.hid hl
      clear hl
      have hnr : nr = 0 := by have h1 := r1.out.len; rw [List.length_drop] at h1; omega
      subst hnr
      go_wp2
      go_ret
      exact ⟨rfl, EB.out⟩
    · subst hst0
      have hz0 : (0 : Int) ≤ zn := by omega
      have HL0 := Lib.hid hl0
      clear hl0
      refine (to_dli (ReadDevice_x d1.out d2.out (by omega) (by omega) hcd hcd' (by omega) (by omega) (by unfold okInt; omega)) hol).mono ?_
      rintro e w3 ⟨Ax, nx, cx, Ax', nx', cx', Al, nl, cl, rfl, ⟨hcx, hcx', hcl⟩, hb, ⟨hd, hd', _, _, _⟩, hl⟩
      (try simp only [World.size_alloc, World.size_setCell, World.size_drew] at hb)
      have HB := Lib.hid hb
      clear hb
      have s3 := HB.out.size
      (try simp only [World.size_alloc, World.size_setCell, World.size_drew] at s3)
      replace d1 := Lib.hid (d1.out.below HB.out (by omega))
      replace d2 := Lib.hid (d2.out.below HB.out (by omega))
      replace Bd := Lib.hid (Bd.out.below HB.out (by omega))
      replace EB := Lib.hid (below_step HB.out EB.out (by omega))
      clear HB
      have l1 := Lib.hid hl
      have x1 := Lib.hid hd
      have x2 := Lib.hid hd'
      clear hd hd' hl
      have hnx : nx ≤ 1048576 := by have h1 := x1.out.len; have h2 := d1.out.len; (try simp only [List.length_nil, cutL_len] at h1); omega
      have hnx' : nx' ≤ 1048576 := by have h1 := x2.out.len; have h2 := d2.out.len; (try simp only [List.length_nil] at h1); omega
      have vdl := Bd.out.lt
      have vd0 := (Bd.out.2 0 _ rfl).1
      have vd1 := (Bd.out.2 1 _ rfl).1
      have vd2 := (Bd.out.2 2 _ rfl).1
      have vd3 := (Bd.out.2 3 _ rfl).1
      go_wp2_with fail
      clear vdl vd0 vd1 vd2 vd3
      replace d1 := Lib.hid (d1.out.alloc (by omega) (.cells #[.slice Ax nx cx, .int .i64 (pd + (L.length : Int)), .slice Ax' nx' cx', .int .i64 (qd + 1)] 27))
      replace d2 := Lib.hid (d2.out.alloc (by omega) (.cells #[.slice Ax nx cx, .int .i64 (pd + (L.length : Int)), .slice Ax' nx' cx', .int .i64 (qd + 1)] 27))
      replace Bd := Lib.hid (Bd.out.alloc (.cells #[.slice Ax nx cx, .int .i64 (pd + (L.length : Int)), .slice Ax' nx' cx', .int .i64 (qd + 1)] 27))
      replace l1 := Lib.hid (l1.out.alloc (by omega) (.cells #[.slice Ax nx cx, .int .i64 (pd + (L.length : Int)), .slice Ax' nx' cx', .int .i64 (qd + 1)] 27))
      replace x1 := Lib.hid (x1.out.alloc (by omega) (.cells #[.slice Ax nx cx, .int .i64 (pd + (L.length : Int)), .slice Ax' nx' cx', .int .i64 (qd + 1)] 27))
      replace x2 := Lib.hid (x2.out.alloc (by omega) (.cells #[.slice Ax nx cx, .int .i64 (pd + (L.length : Int)), .slice Ax' nx' cx', .int .i64 (qd + 1)] 27))
      replace EB := Lib.hid (EB.out.alloc (by omega) (.cells #[.slice Ax nx cx, .int .i64 (pd + (L.length : Int)), .slice Ax' nx' cx', .int .i64 (qd + 1)] 27))
      have Bx := Lib.hid (Box.new w3 27 [.slice Ax nx cx, .int .i64 (pd + (L.length : Int)), .slice Ax' nx' cx', .int .i64 (qd + 1)])
      have s4 : w3.heap.size + 1 ≤ (w3.alloc (.cells #[.slice Ax nx cx, .int .i64 (pd + (L.length : Int)), .slice Ax' nx' cx', .int .i64 (qd + 1)] 27)).heap.size := by simp
      generalize w3.alloc (.cells #[.slice Ax nx cx, .int .i64 (pd + (L.length : Int)), .slice Ax' nx' cx', .int .i64 (qd + 1)] 27) = w4 at *
      refine (to_dli (SReadDevice_x d1.out d2.out (by omega) (by omega) hcd hcd' (by omega) (by omega) (by unfold okInt; omega)) hol).mono ?_
      rintro e w5 ⟨Ay, ny, cy, Ay', ny', cy', Am, nm, cm, rfl, ⟨hcy, hcy', hcm⟩, hb, ⟨hd, hd', _, _, _⟩, hl⟩
      (try simp only [World.size_alloc, World.size_setCell, World.size_drew] at hb)
      have HB := Lib.hid hb
      clear hb
      have s5 := HB.out.size
      (try simp only [World.size_alloc, World.size_setCell, World.size_drew] at s5)
      replace d1 := Lib.hid (d1.out.below HB.out (by omega))
      replace d2 := Lib.hid (d2.out.below HB.out (by omega))
      replace Bd := Lib.hid (Bd.out.below HB.out (by omega))
      replace l1 := Lib.hid (l1.out.below HB.out (by omega))
      replace x1 := Lib.hid (x1.out.below HB.out (by omega))
      replace x2 := Lib.hid (x2.out.below HB.out (by omega))
      replace Bx := Lib.hid (Bx.out.below HB.out (by omega))
      replace EB := Lib.hid (below_step HB.out EB.out (by omega))
      clear HB
      have m1 := Lib.hid hl
      have y1 := Lib.hid hd
      have y2 := Lib.hid hd'
      clear hd hd' hl
      have hny : ny ≤ 1048576 := by have h1 := y1.out.len; have h2 := d1.out.len; (try simp only [List.length_nil, cutL_len] at h1); omega
      have hny' : ny' ≤ 1048576 := by have h1 := y2.out.len; have h2 := d2.out.len; (try simp only [List.length_nil] at h1); omega
      have vxl := Bx.out.lt
      have vx0 := (Bx.out.2 0 _ rfl).1
      have vx1 := (Bx.out.2 1 _ rfl).1
      have vx2 := (Bx.out.2 2 _ rfl).1
      have vx3 := (Bx.out.2 3 _ rfl).1
      go_wp2_with fail
      clear vxl vx0 vx1 vx2 vx3
      replace d1 := Lib.hid (d1.out.alloc (by omega) (.cells #[.slice Ay ny cy, .int .i64 (pd + (L.length : Int)), .slice Ay' ny' cy', .int .i64 (qd + 1)] 27))
      replace d2 := Lib.hid (d2.out.alloc (by omega) (.cells #[.slice Ay ny cy, .int .i64 (pd + (L.length : Int)), .slice Ay' ny' cy', .int .i64 (qd + 1)] 27))
      replace Bd := Lib.hid (Bd.out.alloc (.cells #[.slice Ay ny cy, .int .i64 (pd + (L.length : Int)), .slice Ay' ny' cy', .int .i64 (qd + 1)] 27))
      replace l1 := Lib.hid (l1.out.alloc (by omega) (.cells #[.slice Ay ny cy, .int .i64 (pd + (L.length : Int)), .slice Ay' ny' cy', .int .i64 (qd + 1)] 27))
      replace x1 := Lib.hid (x1.out.alloc (by omega) (.cells #[.slice Ay ny cy, .int .i64 (pd + (L.length : Int)), .slice Ay' ny' cy', .int .i64 (qd + 1)] 27))
      replace x2 := Lib.hid (x2.out.alloc (by omega) (.cells #[.slice Ay ny cy, .int .i64 (pd + (L.length : Int)), .slice Ay' ny' cy', .int .i64 (qd + 1)] 27))
      replace Bx := Lib.hid (Bx.out.alloc (.cells #[.slice Ay ny cy, .int .i64 (pd + (L.length : Int)), .slice Ay' ny' cy', .int .i64 (qd + 1)] 27))
      replace m1 := Lib.hid (m1.out.alloc (by omega) (.cells #[.slice Ay ny cy, .int .i64 (pd + (L.length : Int)), .slice Ay' ny' cy', .int .i64 (qd + 1)] 27))
      replace y1 := Lib.hid (y1.out.alloc (by omega) (.cells #[.slice Ay ny cy, .int .i64 (pd + (L.length : Int)), .slice Ay' ny' cy', .int .i64 (qd + 1)] 27))
      replace y2 := Lib.hid (y2.out.alloc (by omega) (.cells #[.slice Ay ny cy, .int .i64 (pd + (L.length : Int)), .slice Ay' ny' cy', .int .i64 (qd + 1)] 27))
      replace EB := Lib.hid (EB.out.alloc (by omega) (.cells #[.slice Ay ny cy, .int .i64 (pd + (L.length : Int)), .slice Ay' ny' cy', .int .i64 (qd + 1)] 27))
      have By := Lib.hid (Box.new w5 27 [.slice Ay ny cy, .int .i64 (pd + (L.length : Int)), .slice Ay' ny' cy', .int .i64 (qd + 1)])
      have s6 : w5.heap.size + 1 ≤ (w5.alloc (.cells #[.slice Ay ny cy, .int .i64 (pd + (L.length : Int)), .slice Ay' ny' cy', .int .i64 (qd + 1)] 27)).heap.size := by simp
      generalize w5.alloc (.cells #[.slice Ay ny cy, .int .i64 (pd + (L.length : Int)), .slice Ay' ny' cy', .int .i64 (qd + 1)] 27) = w6 at *
      refine (equalDevice_same x1.out x2.out y1.out y2.out (by omega) (by omega) (by omega) (by omega)).mono ?_
      rintro e w7 ⟨rfl, hb⟩
      (try simp only [World.size_alloc, World.size_setCell, World.size_drew] at hb)
      have HB := Lib.hid hb
      clear hb
      have s7 := HB.out.size
      (try simp only [World.size_alloc, World.size_setCell, World.size_drew] at s7)
      replace d1 := Lib.hid (d1.out.below HB.out (by omega))
      replace d2 := Lib.hid (d2.out.below HB.out (by omega))
      replace Bd := Lib.hid (Bd.out.below HB.out (by omega))
      replace l1 := Lib.hid (l1.out.below HB.out (by omega))
      replace x1 := Lib.hid (x1.out.below HB.out (by omega))
      replace x2 := Lib.hid (x2.out.below HB.out (by omega))
      replace Bx := Lib.hid (Bx.out.below HB.out (by omega))
      replace m1 := Lib.hid (m1.out.below HB.out (by omega))
      replace y1 := Lib.hid (y1.out.below HB.out (by omega))
      replace y2 := Lib.hid (y2.out.below HB.out (by omega))
      replace By := Lib.hid (By.out.below HB.out (by omega))
      replace EB := Lib.hid (below_step HB.out EB.out (by omega))
      clear HB
      go_wp2_with fail
      refine (equalInts_same l1.out m1.out rfl).mono ?_
      rintro e w8 ⟨rfl, hb⟩
      (try simp only [World.size_alloc, World.size_setCell, World.size_drew] at hb)
      have HB := Lib.hid hb
      clear hb
      have s8 := HB.out.size
      (try simp only [World.size_alloc, World.size_setCell, World.size_drew] at s8)
      replace d1 := Lib.hid (d1.out.below HB.out (by omega))
      replace d2 := Lib.hid (d2.out.below HB.out (by omega))
      replace Bd := Lib.hid (Bd.out.below HB.out (by omega))
      replace l1 := Lib.hid (l1.out.below HB.out (by omega))
      replace x1 := Lib.hid (x1.out.below HB.out (by omega))
      replace x2 := Lib.hid (x2.out.below HB.out (by omega))
      replace Bx := Lib.hid (Bx.out.below HB.out (by omega))
      replace m1 := Lib.hid (m1.out.below HB.out (by omega))
      replace y1 := Lib.hid (y1.out.below HB.out (by omega))
      replace y2 := Lib.hid (y2.out.below HB.out (by omega))
      replace By := Lib.hid (By.out.below HB.out (by omega))
      replace EB := Lib.hid (below_step HB.out EB.out (by omega))
      clear HB
      have hnl : nl = 0 := by have h1 := l1.out.len; have h2 := HL0.out; omega
      subst hnl
      go_wp2
      go_ret
      exact ⟨rfl, EB.out⟩
    · subst hst0
      have hz0 : (0 : Int) ≤ zn := by omega
      have HL0 := Lib.hid hl0
      clear hl0
      refine (to_dli (ReadDevice_x d1.out d2.out (by omega) (by omega) hcd hcd' (by omega) (by omega) (by unfold okInt; omega)) hol).mono ?_
      rintro e w3 ⟨Ax, nx, cx, Ax', nx', cx', Al, nl, cl, rfl, ⟨hcx, hcx', hcl⟩, hb, ⟨hd, hd', _, _, _⟩, hl⟩
      (try simp only [World.size_alloc, World.size_setCell, World.size_drew] at hb)
      have HB := Lib.hid hb
      clear hb
      have s3 := HB.out.size
      (try simp only [World.size_alloc, World.size_setCell, World.size_drew] at s3)
      replace d1 := Lib.hid (d1.out.below HB.out (by omega))
      replace d2 := Lib.hid (d2.out.below HB.out (by omega))
      replace Bd := Lib.hid (Bd.out.below HB.out (by omega))
      replace EB := Lib.hid (below_step HB.out EB.out (by omega))
      clear HB
      have l1 := Lib.hid hl
      have x1 := Lib.hid hd
      have x2 := Lib.hid hd'
      clear hd hd' hl
      have hnx : nx ≤ 1048576 := by have h1 := x1.out.len; have h2 := d1.out.len; (try simp only [List.length_nil, cutL_len] at h1); omega
      have hnx' : nx' ≤ 1048576 := by have h1 := x2.out.len; have h2 := d2.out.len; (try simp only [List.length_nil] at h1); omega
      have vdl := Bd.out.lt
      have vd0 := (Bd.out.2 0 _ rfl).1
      have vd1 := (Bd.out.2 1 _ rfl).1
      have vd2 := (Bd.out.2 2 _ rfl).1
      have vd3 := (Bd.out.2 3 _ rfl).1
      go_wp2_with fail
      clear vdl vd0 vd1 vd2 vd3
      replace d1 := Lib.hid (d1.out.alloc (by omega) (.cells #[.slice Ax nx cx, .int .i64 (pd + (L.length : Int)), .slice Ax' nx' cx', .int .i64 (qd + 1)] 27))
      replace d2 := Lib.hid (d2.out.alloc (by omega) (.cells #[.slice Ax nx cx, .int .i64 (pd + (L.length : Int)), .slice Ax' nx' cx', .int .i64 (qd + 1)] 27))
      replace Bd := Lib.hid (Bd.out.alloc (.cells #[.slice Ax nx cx, .int .i64 (pd + (L.length : Int)), .slice Ax' nx' cx', .int .i64 (qd + 1)] 27))
      replace l1 := Lib.hid (l1.out.alloc (by omega) (.cells #[.slice Ax nx cx, .int .i64 (pd + (L.length : Int)), .slice Ax' nx' cx', .int .i64 (qd + 1)] 27))
      replace x1 := Lib.hid (x1.out.alloc (by omega) (.cells #[.slice Ax nx cx, .int .i64 (pd + (L.length : Int)), .slice Ax' nx' cx', .int .i64 (qd + 1)] 27))
      replace x2 := Lib.hid (x2.out.alloc (by omega) (.cells #[.slice Ax nx cx, .int .i64 (pd + (L.length : Int)), .slice Ax' nx' cx', .int .i64 (qd + 1)] 27))
      replace EB := Lib.hid (EB.out.alloc (by omega) (.cells #[.slice Ax nx cx, .int .i64 (pd + (L.length : Int)), .slice Ax' nx' cx', .int .i64 (qd + 1)] 27))
      have Bx := Lib.hid (Box.new w3 27 [.slice Ax nx cx, .int .i64 (pd + (L.length : Int)), .slice Ax' nx' cx', .int .i64 (qd + 1)])
      have s4 : w3.heap.size + 1 ≤ (w3.alloc (.cells #[.slice Ax nx cx, .int .i64 (pd + (L.length : Int)), .slice Ax' nx' cx', .int .i64 (qd + 1)] 27)).heap.size := by simp
      generalize w3.alloc (.cells #[.slice Ax nx cx, .int .i64 (pd + (L.length : Int)), .slice Ax' nx' cx', .int .i64 (qd + 1)] 27) = w4 at *
      refine (to_dli (SReadDevice_x d1.out d2.out (by omega) (by omega) hcd hcd' (by omega) (by omega) (by unfold okInt; omega)) hol).mono ?_
      rintro e w5 ⟨Ay, ny, cy, Ay', ny', cy', Am, nm, cm, rfl, ⟨hcy, hcy', hcm⟩, hb, ⟨hd, hd', _, _, _⟩, hl⟩
      (try simp only [World.size_alloc, World.size_setCell, World.size_drew] at hb)
      have HB := Lib.hid hb
      clear hb
      have s5 := HB.out.size
      (try simp only [World.size_alloc, World.size_setCell, World.size_drew] at s5)
      replace d1 := Lib.hid (d1.out.below HB.out (by omega))
      replace d2 := Lib.hid (d2.out.below HB.out (by omega))
      replace Bd := Lib.hid (Bd.out.below HB.out (by omega))
      replace l1 := Lib.hid (l1.out.below HB.out (by omega))
      replace x1 := Lib.hid (x1.out.below HB.out (by omega))
      replace x2 := Lib.hid (x2.out.below HB.out (by omega))
      replace Bx := Lib.hid (Bx.out.below HB.out (by omega))
      replace EB := Lib.hid (below_step HB.out EB.out (by omega))
      clear HB
      have m1 := Lib.hid hl
      have y1 := Lib.hid hd
      have y2 := Lib.hid hd'
      clear hd hd' hl
      have hny : ny ≤ 1048576 := by have h1 := y1.out.len; have h2 := d1.out.len; (try simp only [List.length_nil, cutL_len] at h1); omega
      have hny' : ny' ≤ 1048576 := by have h1 := y2.out.len; have h2 := d2.out.len; (try simp only [List.length_nil] at h1); omega
      have vxl := Bx.out.lt
      have vx0 := (Bx.out.2 0 _ rfl).1
      have vx1 := (Bx.out.2 1 _ rfl).1
      have vx2 := (Bx.out.2 2 _ rfl).1
      have vx3 := (Bx.out.2 3 _ rfl).1
      go_wp2_with fail
      clear vxl vx0 vx1 vx2 vx3
      replace d1 := Lib.hid (d1.out.alloc (by omega) (.cells #[.slice Ay ny cy, .int .i64 (pd + (L.length : Int)), .slice Ay' ny' cy', .int .i64 (qd + 1)] 27))
      replace d2 := Lib.hid (d2.out.alloc (by omega) (.cells #[.slice Ay ny cy, .int .i64 (pd + (L.length : Int)), .slice Ay' ny' cy', .int .i64 (qd + 1)] 27))
      replace Bd := Lib.hid (Bd.out.alloc (.cells #[.slice Ay ny cy, .int .i64 (pd + (L.length : Int)), .slice Ay' ny' cy', .int .i64 (qd + 1)] 27))
      replace l1 := Lib.hid (l1.out.alloc (by omega) (.cells #[.slice Ay ny cy, .int .i64 (pd + (L.length : Int)), .slice Ay' ny' cy', .int .i64 (qd + 1)] 27))
      replace x1 := Lib.hid (x1.out.alloc (by omega) (.cells #[.slice Ay ny cy, .int .i64 (pd + (L.length : Int)), .slice Ay' ny' cy', .int .i64 (qd + 1)] 27))
      replace x2 := Lib.hid (x2.out.alloc (by omega) (.cells #[.slice Ay ny cy, .int .i64 (pd + (L.length : Int)), .slice Ay' ny' cy', .int .i64 (qd + 1)] 27))
      replace Bx := Lib.hid (Bx.out.alloc (.cells #[.slice Ay ny cy, .int .i64 (pd + (L.length : Int)), .slice Ay' ny' cy', .int .i64 (qd + 1)] 27))
      replace m1 := Lib.hid (m1.out.alloc (by omega) (.cells #[.slice Ay ny cy, .int .i64 (pd + (L.length : Int)), .slice Ay' ny' cy', .int .i64 (qd + 1)] 27))
      replace y1 := Lib.hid (y1.out.alloc (by omega) (.cells #[.slice Ay ny cy, .int .i64 (pd + (L.length : Int)), .slice Ay' ny' cy', .int .i64 (qd + 1)] 27))
      replace y2 := Lib.hid (y2.out.alloc (by omega) (.cells #[.slice Ay ny cy, .int .i64 (pd + (L.length : Int)), .slice Ay' ny' cy', .int .i64 (qd + 1)] 27))
      replace EB := Lib.hid (EB.out.alloc (by omega) (.cells #[.slice Ay ny cy, .int .i64 (pd + (L.length : Int)), .slice Ay' ny' cy', .int .i64 (qd + 1)] 27))
      have By := Lib.hid (Box.new w5 27 [.slice Ay ny cy, .int .i64 (pd + (L.length : Int)), .slice Ay' ny' cy', .int .i64 (qd + 1)])
      have s6 : w5.heap.size + 1 ≤ (w5.alloc (.cells #[.slice Ay ny cy, .int .i64 (pd + (L.length : Int)), .slice Ay' ny' cy', .int .i64 (qd + 1)] 27)).heap.size := by simp
      generalize w5.alloc (.cells #[.slice Ay ny cy, .int .i64 (pd + (L.length : Int)), .slice Ay' ny' cy', .int .i64 (qd + 1)] 27) = w6 at *
      refine (equalDevice_same x1.out x2.out y1.out y2.out (by omega) (by omega) (by omega) (by omega)).mono ?_
      rintro e w7 ⟨rfl, hb⟩
      (try simp only [World.size_alloc, World.size_setCell, World.size_drew] at hb)
      have HB := Lib.hid hb
      clear hb
      have s7 := HB.out.size
      (try simp only [World.size_alloc, World.size_setCell, World.size_drew] at s7)
      replace d1 := Lib.hid (d1.out.below HB.out (by omega))
      replace d2 := Lib.hid (d2.out.below HB.out (by omega))
      replace Bd := Lib.hid (Bd.out.below HB.out (by omega))
      replace l1 := Lib.hid (l1.out.below HB.out (by omega))
      replace x1 := Lib.hid (x1.out.below HB.out (by omega))
      replace x2 := Lib.hid (x2.out.below HB.out (by omega))
      replace Bx := Lib.hid (Bx.out.below HB.out (by omega))
      replace m1 := Lib.hid (m1.out.below HB.out (by omega))
      replace y1 := Lib.hid (y1.out.below HB.out (by omega))
      replace y2 := Lib.hid (y2.out.below HB.out (by omega))
      replace By := Lib.hid (By.out.below HB.out (by omega))
      replace EB := Lib.hid (below_step HB.out EB.out (by omega))
      clear HB
      go_wp2_with fail
      refine (equalInts_same l1.out m1.out rfl).mono ?_
      rintro e w8 ⟨rfl, hb⟩
      (try simp only [World.size_alloc, World.size_setCell, World.size_drew] at hb)
      have HB := Lib.hid hb
      clear hb
      have s8 := HB.out.size
      (try simp only [World.size_alloc, World.size_setCell, World.size_drew] at s8)
      replace d1 := Lib.hid (d1.out.below HB.out (by omega))
      replace d2 := Lib.hid (d2.out.below HB.out (by omega))
      replace Bd := Lib.hid (Bd.out.below HB.out (by omega))
      replace l1 := Lib.hid (l1.out.below HB.out (by omega))
      replace x1 := Lib.hid (x1.out.below HB.out (by omega))
      replace x2 := Lib.hid (x2.out.below HB.out (by omega))
      replace Bx := Lib.hid (Bx.out.below HB.out (by omega))
      replace m1 := Lib.hid (m1.out.below HB.out (by omega))
      replace y1 := Lib.hid (y1.out.below HB.out (by omega))
      replace y2 := Lib.hid (y2.out.below HB.out (by omega))
      replace By := Lib.hid (By.out.below HB.out (by omega))
      replace EB := Lib.hid (below_step HB.out EB.out (by omega))
      clear HB
      have hnl : nl = 0 := by have h1 := l1.out.len; have h2 := HL0.out; omega
      subst hnl
      go_wp2
      go_ret
      exact ⟨rfl, EB.out⟩

theorem contract (H : Type) (enc : TypeId × Value → H) (W : World) (base : Nat) (args : Array Value) (ds gs : List (DataW H)) (before : List MemPlace)
    (hval : ∀ (j : Nat) t v, Try.f4.params[j]? = some t → args[j]? = some v → Value.okWide Try.prog W .any base t v)
    (hW : DataW.Whole enc Try.prog Try.f4.params.toList Rows.fnReadDeviceEndsSpec.vars false W args.toList ds gs before) :
    Calls Try.prog 4 args W fun e W' => ∃ v, e = .returned v ∧ Rows.fnReadDeviceEndsSpec.post enc Try.prog Try.f4 false true false false W args v W' := by
  have hW' := hW
  have hlt : ∀ p ∈ before, p.block < W.heap.size := fun p hp => hW.lt p hp
  obtain ⟨p, q, hA0, hV, rfl, hfz, hnd⟩ := hW
  have hA : DataW.TrodAll enc Try.prog W 0 (fun _ => true) true Try.f4.params.toList args.toList ds p := hA0
  rw [Try.params4] at hA hval
  obtain ⟨v0, vs0, d0, ds0, p0, q0, hargs, rfl, rfl, h0, r0⟩ := trodAll_cons hA
  obtain ⟨rfl, rfl, rfl⟩ := trodAll_nil r0
  obtain rfl : args = #[v0] := by cases args; simp_all
  obtain ⟨rfl, rfl⟩ := trodVars_none hV
  obtain ⟨A, n, c, rfl, hnc, hby, hmx⟩ := arg_bytes (hval 0 _ v0 rfl rfl) h0 (fun p hp => hlt p (by simp [hp]))
  refine (walk A n c W hby hnc hmx).mono fun e W' hh => ?_
  obtain ⟨rfl, hb⟩ := hh
  exact ⟨_, rfl, law_post laidOut (tys_of (by rw [Try.params4]; kernel_rfl)) hW' rfl rfl rfl Try.underlying4 hb⟩

set_option maxRecDepth 100000 in
theorem lifted (os : Os) (started : os.Started) (H : Type) (enc : TypeId × Value → H) :
    ReturnsInHanded {} Try.checked os 4 .any (Rows.fnReadDeviceEndsSpec.pre6 enc Try.prog Try.f4 Rows.fnReadDeviceEndsRow.domain false) (Rows.fnReadDeviceEndsSpec.post enc Try.prog Try.f4 false true false false) := by
  refine returnsInHanded_of_change (C := Try.checked) own started (by kernel_rfl) Try.func4
    (ChangeSpec.witness6 (C := Try.checked) false ⟨#[], #[.slice none 0 0], []⟩ 8 (by kernel_rfl) (by kernel_rfl) (by kernel_rfl) (by kernel_rfl)) ?_
  intro W base args ds gs before hval hW _ _
  exact contract H enc W base args ds gs before hval hW

theorem holds : Rows.FnReadDeviceEndsSaid :=
  OpenClaim.holds_of_wide 4 Try.f4 rfl rfl rfl rfl rfl rfl rfl ⟨rfl, rfl, rfl, rfl, rfl⟩ rfl rfl rfl rfl rfl (by kernel_rfl) Try.func4 (by kernel_rfl)
    (of_decide_eq_true (by kernel_rfl)) (by unfold Func.isWrapper; first | (rw [if_pos (by decide +kernel)]; kernel_rfl) | (rw [if_neg (by decide +kernel)]; exact ⟨rfl, rfl⟩))
    (fun os started H enc _ => lifted os started H enc)
end LawReadDeviceEnds
end Go.Proofs.Ytbphijnhcpcclaa
