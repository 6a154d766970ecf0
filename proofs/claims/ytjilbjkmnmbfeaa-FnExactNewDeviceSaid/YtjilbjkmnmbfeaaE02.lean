/- The exact law of NewDevice: for all arguments the function answers as its model, and writes into none. -/
import Derived.Test.YtjilbjkmnmbfeaaLawBase
import Derived.Test.YtjilbjkmnmbfeaaL4
import Derived.Test.YtjilbjkmnmbfeaaC1g
set_option maxRecDepth 10000
namespace Go.Proofs.Ytjilbjkmnmbfeaa
open Go.ChangeShapes Go.WideShapes Go.ChangeAt Go.RowKit
set_option linter.unusedSimpArgs false
set_option linter.unusedVariables false
namespace ExactNewDevice
set_option maxHeartbeats 16000000 in
theorem walk (A0 : Option Addr) (n0 c0 : Nat) (D0 : List Int) (A1 : Option Addr) (n1 c1 : Nat) (D1 : List Int) (w : World) (h0 : Ints w 0 w.heap.size A0 n0 D0) (h1 : Ints w 0 w.heap.size A1 n1 D1) :
    Calls Try.prog 4 #[.slice A0 n0 c0, .slice A1 n1 c1] w (BoolB true w) := by
  have HLa0 := Lib.hid h0.len
  have hm0 := h0.max
  have a01 := Lib.hid h0
  clear h0
  have HLa1 := Lib.hid h1.len
  have hm1 := h1.max
  have a11 := Lib.hid h1
  clear h1
  have EB := Lib.hid (Below.refl w.heap.size w)
  go_enter Try.func4, Try.ntmps4
  go_wp2_with fail
  · go_ret
    exact ⟨rfl, Below.refl _ _⟩
  · go_ret
    exact ⟨rfl, Below.refl _ _⟩
  have hn0 : n0 ≤ 1048576 := by omega
  have hn1 : n1 ≤ 1048576 := by omega
  go_wp2_with fail
  refine (toIntS_b a01.out (by omega) hn0).mono ?_
  rintro e w1 ⟨At0, ct0, rfl, hct0, hb, hd⟩
  (try simp only [World.size_alloc, World.size_setCell, World.size_drew] at hb)
  have HB := Lib.hid hb
  clear hb
  have s1 := HB.out.size
  (try simp only [World.size_alloc, World.size_setCell, World.size_drew] at s1)
  replace a01 := Lib.hid (a01.out.below HB.out (by omega))
  replace a11 := Lib.hid (a11.out.below HB.out (by omega))
  replace EB := Lib.hid (below_step HB.out EB.out (by omega))
  clear HB
  have t01 := Lib.hid hd
  clear hd
  go_wp2_with fail
  refine (toIntS_b a11.out (by omega) hn1).mono ?_
  rintro e w2 ⟨At1, ct1, rfl, hct1, hb, hd⟩
  (try simp only [World.size_alloc, World.size_setCell, World.size_drew] at hb)
  have HB := Lib.hid hb
  clear hb
  have s2 := HB.out.size
  (try simp only [World.size_alloc, World.size_setCell, World.size_drew] at s2)
  replace a01 := Lib.hid (a01.out.below HB.out (by omega))
  replace a11 := Lib.hid (a11.out.below HB.out (by omega))
  replace t01 := Lib.hid (t01.out.below HB.out (by omega))
  replace EB := Lib.hid (below_step HB.out EB.out (by omega))
  clear HB
  have t11 := Lib.hid hd
  clear hd
  go_wp2_with fail
  refine (SNewDevice_x t01.out t11.out (by omega) (by omega) hct0 hct1 hn0 hn1).mono ?_
  rintro e w3 ⟨Au, nu, cu, Au', nu', cu', rfl, ⟨_, _⟩, hb, ⟨hd, hd', ha, _, _⟩⟩
  (try simp only [World.size_alloc, World.size_setCell, World.size_drew] at hb)
  have HB := Lib.hid hb
  clear hb
  have s3 := HB.out.size
  (try simp only [World.size_alloc, World.size_setCell, World.size_drew] at s3)
  replace a01 := Lib.hid (a01.out.below HB.out (by omega))
  replace a11 := Lib.hid (a11.out.below HB.out (by omega))
  replace t01 := Lib.hid (t01.out.below HB.out (by omega))
  replace t11 := Lib.hid (t11.out.below HB.out (by omega))
  replace EB := Lib.hid (below_step HB.out EB.out (by omega))
  clear HB
  have u1 := Lib.hid hd
  have u2 := Lib.hid hd'
  clear hd hd'
  have u1_u2 := Lib.hid ha
  clear ha
  obtain ⟨hx0, hx1⟩ := newOut_le D0 D1
  have hl_u1 : nu ≤ 1048576 := by have := u1.out.len; omega
  have hl_u2 : nu' ≤ 1048576 := by have := u2.out.len; omega
  clear hx0 hx1
  clear t01 t11
  go_wp2_with fail
  replace a01 := Lib.hid (a01.out.alloc (by omega) (.cells #[.slice Au nu cu, .int .i64 ((newOut D0 D1).1.p), .slice Au' nu' cu', .int .i64 ((newOut D0 D1).1.q)] 27))
  replace a11 := Lib.hid (a11.out.alloc (by omega) (.cells #[.slice Au nu cu, .int .i64 ((newOut D0 D1).1.p), .slice Au' nu' cu', .int .i64 ((newOut D0 D1).1.q)] 27))
  replace u1 := Lib.hid (u1.out.alloc (by omega) (.cells #[.slice Au nu cu, .int .i64 ((newOut D0 D1).1.p), .slice Au' nu' cu', .int .i64 ((newOut D0 D1).1.q)] 27))
  replace u2 := Lib.hid (u2.out.alloc (by omega) (.cells #[.slice Au nu cu, .int .i64 ((newOut D0 D1).1.p), .slice Au' nu' cu', .int .i64 ((newOut D0 D1).1.q)] 27))
  replace EB := Lib.hid (EB.out.alloc (by omega) (.cells #[.slice Au nu cu, .int .i64 ((newOut D0 D1).1.p), .slice Au' nu' cu', .int .i64 ((newOut D0 D1).1.q)] 27))
  have Bu := Lib.hid (Box.new w3 27 [.slice Au nu cu, .int .i64 ((newOut D0 D1).1.p), .slice Au' nu' cu', .int .i64 ((newOut D0 D1).1.q)])
  have s4 : w3.heap.size + 1 ≤ (w3.alloc (.cells #[.slice Au nu cu, .int .i64 ((newOut D0 D1).1.p), .slice Au' nu' cu', .int .i64 ((newOut D0 D1).1.q)] 27)).heap.size := by simp
  generalize w3.alloc (.cells #[.slice Au nu cu, .int .i64 ((newOut D0 D1).1.p), .slice Au' nu' cu', .int .i64 ((newOut D0 D1).1.q)] 27) = w4 at *
  refine (toIntS_b a01.out (by omega) hn0).mono ?_
  rintro e w5 ⟨Ax0, cx0, rfl, hcx0, hb, hd⟩
  (try simp only [World.size_alloc, World.size_setCell, World.size_drew] at hb)
  have HB := Lib.hid hb
  clear hb
  have s5 := HB.out.size
  (try simp only [World.size_alloc, World.size_setCell, World.size_drew] at s5)
  replace a01 := Lib.hid (a01.out.below HB.out (by omega))
  replace a11 := Lib.hid (a11.out.below HB.out (by omega))
  replace u1 := Lib.hid (u1.out.below HB.out (by omega))
  replace u2 := Lib.hid (u2.out.below HB.out (by omega))
  replace Bu := Lib.hid (Bu.out.below HB.out (by omega))
  replace EB := Lib.hid (below_step HB.out EB.out (by omega))
  clear HB
  have x01 := Lib.hid hd
  clear hd
  go_wp2_with fail
  refine (toIntS_b a11.out (by omega) hn1).mono ?_
  rintro e w6 ⟨Ax1, cx1, rfl, hcx1, hb, hd⟩
  (try simp only [World.size_alloc, World.size_setCell, World.size_drew] at hb)
  have HB := Lib.hid hb
  clear hb
  have s6 := HB.out.size
  (try simp only [World.size_alloc, World.size_setCell, World.size_drew] at s6)
  replace a01 := Lib.hid (a01.out.below HB.out (by omega))
  replace a11 := Lib.hid (a11.out.below HB.out (by omega))
  replace u1 := Lib.hid (u1.out.below HB.out (by omega))
  replace u2 := Lib.hid (u2.out.below HB.out (by omega))
  replace Bu := Lib.hid (Bu.out.below HB.out (by omega))
  replace x01 := Lib.hid (x01.out.below HB.out (by omega))
  replace EB := Lib.hid (below_step HB.out EB.out (by omega))
  clear HB
  have x11 := Lib.hid hd
  clear hd
  go_wp2_with fail
  refine (NewDevice_x x01.out x11.out (by omega) (by omega) hcx0 hcx1 hn0 hn1).mono ?_
  rintro e w7 ⟨Ag, ng, cg, Ag', ng', cg', rfl, ⟨_, _⟩, hb, ⟨hd, hd', ha, _, _⟩⟩
  (try simp only [World.size_alloc, World.size_setCell, World.size_drew] at hb)
  have HB := Lib.hid hb
  clear hb
  have s7 := HB.out.size
  (try simp only [World.size_alloc, World.size_setCell, World.size_drew] at s7)
  replace a01 := Lib.hid (a01.out.below HB.out (by omega))
  replace a11 := Lib.hid (a11.out.below HB.out (by omega))
  replace u1 := Lib.hid (u1.out.below HB.out (by omega))
  replace u2 := Lib.hid (u2.out.below HB.out (by omega))
  replace Bu := Lib.hid (Bu.out.below HB.out (by omega))
  replace x01 := Lib.hid (x01.out.below HB.out (by omega))
  replace x11 := Lib.hid (x11.out.below HB.out (by omega))
  replace EB := Lib.hid (below_step HB.out EB.out (by omega))
  clear HB
  have g1 := Lib.hid hd
  have g2 := Lib.hid hd'
  clear hd hd'
  have g1_g2 := Lib.hid ha
  clear ha
  obtain ⟨hx0, hx1⟩ := newOut_le D0 D1
  have hl_g1 : ng ≤ 1048576 := by have := g1.out.len; omega
  have hl_g2 : ng' ≤ 1048576 := by have := g2.out.len; omega
  clear hx0 hx1
  have vul := Bu.out.lt
  have vu0 := (Bu.out.2 0 _ rfl).1
  have vu1 := (Bu.out.2 1 _ rfl).1
  have vu2 := (Bu.out.2 2 _ rfl).1
  have vu3 := (Bu.out.2 3 _ rfl).1
  go_wp2_with fail
  clear vul vu0 vu1 vu2 vu3
  replace a01 := Lib.hid (a01.out.alloc (by omega) (.cells #[.slice Ag ng cg, .int .i64 ((newOut D0 D1).1.p), .slice Ag' ng' cg', .int .i64 ((newOut D0 D1).1.q)] 27))
  replace a11 := Lib.hid (a11.out.alloc (by omega) (.cells #[.slice Ag ng cg, .int .i64 ((newOut D0 D1).1.p), .slice Ag' ng' cg', .int .i64 ((newOut D0 D1).1.q)] 27))
  replace u1 := Lib.hid (u1.out.alloc (by omega) (.cells #[.slice Ag ng cg, .int .i64 ((newOut D0 D1).1.p), .slice Ag' ng' cg', .int .i64 ((newOut D0 D1).1.q)] 27))
  replace u2 := Lib.hid (u2.out.alloc (by omega) (.cells #[.slice Ag ng cg, .int .i64 ((newOut D0 D1).1.p), .slice Ag' ng' cg', .int .i64 ((newOut D0 D1).1.q)] 27))
  replace Bu := Lib.hid (Bu.out.alloc (.cells #[.slice Ag ng cg, .int .i64 ((newOut D0 D1).1.p), .slice Ag' ng' cg', .int .i64 ((newOut D0 D1).1.q)] 27))
  replace x01 := Lib.hid (x01.out.alloc (by omega) (.cells #[.slice Ag ng cg, .int .i64 ((newOut D0 D1).1.p), .slice Ag' ng' cg', .int .i64 ((newOut D0 D1).1.q)] 27))
  replace x11 := Lib.hid (x11.out.alloc (by omega) (.cells #[.slice Ag ng cg, .int .i64 ((newOut D0 D1).1.p), .slice Ag' ng' cg', .int .i64 ((newOut D0 D1).1.q)] 27))
  replace g1 := Lib.hid (g1.out.alloc (by omega) (.cells #[.slice Ag ng cg, .int .i64 ((newOut D0 D1).1.p), .slice Ag' ng' cg', .int .i64 ((newOut D0 D1).1.q)] 27))
  replace g2 := Lib.hid (g2.out.alloc (by omega) (.cells #[.slice Ag ng cg, .int .i64 ((newOut D0 D1).1.p), .slice Ag' ng' cg', .int .i64 ((newOut D0 D1).1.q)] 27))
  replace EB := Lib.hid (EB.out.alloc (by omega) (.cells #[.slice Ag ng cg, .int .i64 ((newOut D0 D1).1.p), .slice Ag' ng' cg', .int .i64 ((newOut D0 D1).1.q)] 27))
  have Bg := Lib.hid (Box.new w7 27 [.slice Ag ng cg, .int .i64 ((newOut D0 D1).1.p), .slice Ag' ng' cg', .int .i64 ((newOut D0 D1).1.q)])
  have s8 : w7.heap.size + 1 ≤ (w7.alloc (.cells #[.slice Ag ng cg, .int .i64 ((newOut D0 D1).1.p), .slice Ag' ng' cg', .int .i64 ((newOut D0 D1).1.q)] 27)).heap.size := by simp
  generalize w7.alloc (.cells #[.slice Ag ng cg, .int .i64 ((newOut D0 D1).1.p), .slice Ag' ng' cg', .int .i64 ((newOut D0 D1).1.q)] 27) = w8 at *
  refine (eqDevice_same g1.out g2.out u1.out u2.out (by omega) (by omega) (by omega) (by omega)).mono ?_
  rintro e w9 ⟨rfl, hb⟩
  (try simp only [World.size_alloc, World.size_setCell, World.size_drew] at hb)
  have HB := Lib.hid hb
  clear hb
  have s9 := HB.out.size
  (try simp only [World.size_alloc, World.size_setCell, World.size_drew] at s9)
  replace a01 := Lib.hid (a01.out.below HB.out (by omega))
  replace a11 := Lib.hid (a11.out.below HB.out (by omega))
  replace u1 := Lib.hid (u1.out.below HB.out (by omega))
  replace u2 := Lib.hid (u2.out.below HB.out (by omega))
  replace Bu := Lib.hid (Bu.out.below HB.out (by omega))
  replace x01 := Lib.hid (x01.out.below HB.out (by omega))
  replace x11 := Lib.hid (x11.out.below HB.out (by omega))
  replace g1 := Lib.hid (g1.out.below HB.out (by omega))
  replace g2 := Lib.hid (g2.out.below HB.out (by omega))
  replace Bg := Lib.hid (Bg.out.below HB.out (by omega))
  replace EB := Lib.hid (below_step HB.out EB.out (by omega))
  clear HB
  go_wp2_with fail
  refine (toIntS_b a01.out (by omega) hn0).mono ?_
  rintro e w10 ⟨Ak0, ck0, rfl, hck0, hb, hd⟩
  (try simp only [World.size_alloc, World.size_setCell, World.size_drew] at hb)
  have HB := Lib.hid hb
  clear hb
  have s10 := HB.out.size
  (try simp only [World.size_alloc, World.size_setCell, World.size_drew] at s10)
  replace a01 := Lib.hid (a01.out.below HB.out (by omega))
  replace a11 := Lib.hid (a11.out.below HB.out (by omega))
  replace u1 := Lib.hid (u1.out.below HB.out (by omega))
  replace u2 := Lib.hid (u2.out.below HB.out (by omega))
  replace Bu := Lib.hid (Bu.out.below HB.out (by omega))
  replace x01 := Lib.hid (x01.out.below HB.out (by omega))
  replace x11 := Lib.hid (x11.out.below HB.out (by omega))
  replace g1 := Lib.hid (g1.out.below HB.out (by omega))
  replace g2 := Lib.hid (g2.out.below HB.out (by omega))
  replace Bg := Lib.hid (Bg.out.below HB.out (by omega))
  replace EB := Lib.hid (below_step HB.out EB.out (by omega))
  clear HB
  have k01 := Lib.hid hd
  clear hd
  go_wp2_with fail
  refine (eqIntS_same x01.out k01.out).mono ?_
  rintro e w11 ⟨rfl, hb⟩
  (try simp only [World.size_alloc, World.size_setCell, World.size_drew] at hb)
  have HB := Lib.hid hb
  clear hb
  have s11 := HB.out.size
  (try simp only [World.size_alloc, World.size_setCell, World.size_drew] at s11)
  replace a01 := Lib.hid (a01.out.below HB.out (by omega))
  replace a11 := Lib.hid (a11.out.below HB.out (by omega))
  replace u1 := Lib.hid (u1.out.below HB.out (by omega))
  replace u2 := Lib.hid (u2.out.below HB.out (by omega))
  replace Bu := Lib.hid (Bu.out.below HB.out (by omega))
  replace x01 := Lib.hid (x01.out.below HB.out (by omega))
  replace x11 := Lib.hid (x11.out.below HB.out (by omega))
  replace g1 := Lib.hid (g1.out.below HB.out (by omega))
  replace g2 := Lib.hid (g2.out.below HB.out (by omega))
  replace Bg := Lib.hid (Bg.out.below HB.out (by omega))
  replace k01 := Lib.hid (k01.out.below HB.out (by omega))
  replace EB := Lib.hid (below_step HB.out EB.out (by omega))
  clear HB
  clear k01
  go_wp2_with fail
  refine (toIntS_b a11.out (by omega) hn1).mono ?_
  rintro e w12 ⟨Ak1, ck1, rfl, hck1, hb, hd⟩
  (try simp only [World.size_alloc, World.size_setCell, World.size_drew] at hb)
  have HB := Lib.hid hb
  clear hb
  have s12 := HB.out.size
  (try simp only [World.size_alloc, World.size_setCell, World.size_drew] at s12)
  replace a01 := Lib.hid (a01.out.below HB.out (by omega))
  replace a11 := Lib.hid (a11.out.below HB.out (by omega))
  replace u1 := Lib.hid (u1.out.below HB.out (by omega))
  replace u2 := Lib.hid (u2.out.below HB.out (by omega))
  replace Bu := Lib.hid (Bu.out.below HB.out (by omega))
  replace x01 := Lib.hid (x01.out.below HB.out (by omega))
  replace x11 := Lib.hid (x11.out.below HB.out (by omega))
  replace g1 := Lib.hid (g1.out.below HB.out (by omega))
  replace g2 := Lib.hid (g2.out.below HB.out (by omega))
  replace Bg := Lib.hid (Bg.out.below HB.out (by omega))
  replace EB := Lib.hid (below_step HB.out EB.out (by omega))
  clear HB
  have k11 := Lib.hid hd
  clear hd
  go_wp2_with fail
  refine (eqIntS_same x11.out k11.out).mono ?_
  rintro e w13 ⟨rfl, hb⟩
  (try simp only [World.size_alloc, World.size_setCell, World.size_drew] at hb)
  have HB := Lib.hid hb
  clear hb
  have s13 := HB.out.size
  (try simp only [World.size_alloc, World.size_setCell, World.size_drew] at s13)
  replace a01 := Lib.hid (a01.out.below HB.out (by omega))
  replace a11 := Lib.hid (a11.out.below HB.out (by omega))
  replace u1 := Lib.hid (u1.out.below HB.out (by omega))
  replace u2 := Lib.hid (u2.out.below HB.out (by omega))
  replace Bu := Lib.hid (Bu.out.below HB.out (by omega))
  replace x01 := Lib.hid (x01.out.below HB.out (by omega))
  replace x11 := Lib.hid (x11.out.below HB.out (by omega))
  replace g1 := Lib.hid (g1.out.below HB.out (by omega))
  replace g2 := Lib.hid (g2.out.below HB.out (by omega))
  replace Bg := Lib.hid (Bg.out.below HB.out (by omega))
  replace k11 := Lib.hid (k11.out.below HB.out (by omega))
  replace EB := Lib.hid (below_step HB.out EB.out (by omega))
  clear HB
  clear k11
  go_wp2_with fail
  refine (markIntS_any x01.out (by omega) (by omega) hn0).mono ?_
  rintro e w14 ⟨rfl, hm, hi0⟩
  have HM := Lib.hid hm
  have s14 := HM.out.size
  clear hm
  replace EB := Lib.hid (below_mark EB.out HM.out x01.out (by omega))
  replace a01 := Lib.hid (a01.out.mark HM.out (Apart.of_le a01.out x01.out (by omega)).symm)
  replace a11 := Lib.hid (a11.out.mark HM.out (Apart.of_le a11.out x01.out (by omega)).symm)
  replace u1 := Lib.hid (u1.out.mark HM.out (Apart.of_le u1.out x01.out (by omega)).symm)
  replace u2 := Lib.hid (u2.out.mark HM.out (Apart.of_le u2.out x01.out (by omega)).symm)
  replace Bu := Lib.hid (Bu.out.mark HM.out x01.out (by omega))
  replace x11 := Lib.hid (x11.out.mark HM.out (Apart.of_le x01.out x11.out (by omega)))
  replace g1 := Lib.hid (g1.out.mark HM.out (Apart.of_le x01.out g1.out (by omega)))
  replace g2 := Lib.hid (g2.out.mark HM.out (Apart.of_le x01.out g2.out (by omega)))
  replace Bg := Lib.hid (Bg.out.mark HM.out x01.out (by omega))
  replace x01 := Lib.hid hi0
  clear HM hi0
  go_wp2_with fail
  refine (markIntS_any x11.out (by omega) (by omega) hn1).mono ?_
  rintro e w15 ⟨rfl, hm, hi0⟩
  have HM := Lib.hid hm
  have s15 := HM.out.size
  clear hm
  replace EB := Lib.hid (below_mark EB.out HM.out x11.out (by omega))
  replace a01 := Lib.hid (a01.out.mark HM.out (Apart.of_le a01.out x11.out (by omega)).symm)
  replace a11 := Lib.hid (a11.out.mark HM.out (Apart.of_le a11.out x11.out (by omega)).symm)
  replace u1 := Lib.hid (u1.out.mark HM.out (Apart.of_le u1.out x11.out (by omega)).symm)
  replace u2 := Lib.hid (u2.out.mark HM.out (Apart.of_le u2.out x11.out (by omega)).symm)
  replace Bu := Lib.hid (Bu.out.mark HM.out x11.out (by omega))
  replace x01 := Lib.hid (x01.out.mark HM.out (Apart.of_le x01.out x11.out (by omega)).symm)
  replace g1 := Lib.hid (g1.out.mark HM.out (Apart.of_le x11.out g1.out (by omega)))
  replace g2 := Lib.hid (g2.out.mark HM.out (Apart.of_le x11.out g2.out (by omega)))
  replace Bg := Lib.hid (Bg.out.mark HM.out x11.out (by omega))
  replace x11 := Lib.hid hi0
  clear HM hi0
  clear x01
  clear x11
  have vgl := Bg.out.lt
  have vg0 := (Bg.out.2 0 _ rfl).1
  have vg1 := (Bg.out.2 1 _ rfl).1
  have vg2 := (Bg.out.2 2 _ rfl).1
  have vg3 := (Bg.out.2 3 _ rfl).1
  have vul := Bu.out.lt
  have vu0 := (Bu.out.2 0 _ rfl).1
  have vu1 := (Bu.out.2 1 _ rfl).1
  have vu2 := (Bu.out.2 2 _ rfl).1
  have vu3 := (Bu.out.2 3 _ rfl).1
  go_wp2_with fail
  refine (eqDevice_same g1.out g2.out u1.out u2.out (by omega) (by omega) (by omega) (by omega)).mono ?_
  clear vgl vg0 vg1 vg2 vg3 vul vu0 vu1 vu2 vu3
  rintro e w16 ⟨rfl, hb⟩
  (try simp only [World.size_alloc, World.size_setCell, World.size_drew] at hb)
  have HB := Lib.hid hb
  clear hb
  have s16 := HB.out.size
  (try simp only [World.size_alloc, World.size_setCell, World.size_drew] at s16)
  replace a01 := Lib.hid (a01.out.below HB.out (by omega))
  replace a11 := Lib.hid (a11.out.below HB.out (by omega))
  replace u1 := Lib.hid (u1.out.below HB.out (by omega))
  replace u2 := Lib.hid (u2.out.below HB.out (by omega))
  replace Bu := Lib.hid (Bu.out.below HB.out (by omega))
  replace g1 := Lib.hid (g1.out.below HB.out (by omega))
  replace g2 := Lib.hid (g2.out.below HB.out (by omega))
  replace Bg := Lib.hid (Bg.out.below HB.out (by omega))
  replace EB := Lib.hid (below_step HB.out EB.out (by omega))
  clear HB
  have vgl := Bg.out.lt
  have vg0 := (Bg.out.2 0 _ rfl).1
  have vg1 := (Bg.out.2 1 _ rfl).1
  have vg2 := (Bg.out.2 2 _ rfl).1
  have vg3 := (Bg.out.2 3 _ rfl).1
  go_wp2_with fail
  refine (markDevice_any g1.out g2.out g1_g2.out (by omega) (by omega) (by omega) (by omega) hl_g1 hl_g2).mono ?_
  clear vgl vg0 vg1 vg2 vg3
  rintro e w17 ⟨rfl, hm, hi0, hi1⟩
  have HM := Lib.hid hm
  have s17 := HM.out.size
  clear hm
  replace EB := Lib.hid (below_markD EB.out HM.out g1.out g2.out (by omega) (by omega) (by omega))
  replace a01 := Lib.hid (a01.out.markD HM.out (by omega) (Apart.of_le a01.out g1.out (by omega)).symm (Apart.of_le a01.out g2.out (by omega)).symm)
  replace a11 := Lib.hid (a11.out.markD HM.out (by omega) (Apart.of_le a11.out g1.out (by omega)).symm (Apart.of_le a11.out g2.out (by omega)).symm)
  replace u1 := Lib.hid (u1.out.markD HM.out (by omega) (Apart.of_le u1.out g1.out (by omega)).symm (Apart.of_le u1.out g2.out (by omega)).symm)
  replace u2 := Lib.hid (u2.out.markD HM.out (by omega) (Apart.of_le u2.out g1.out (by omega)).symm (Apart.of_le u2.out g2.out (by omega)).symm)
  replace Bu := Lib.hid (Bu.out.markD HM.out g1.out g2.out (by omega) (by omega))
  replace Bg := Lib.hid (Bg.out.markD HM.out g1.out g2.out (by omega) (by omega))
  replace g1 := Lib.hid hi0
  replace g2 := Lib.hid hi1
  clear HM hi0 hi1
  have vgl := Bg.out.lt
  have vg0 := (Bg.out.2 0 _ rfl).1
  have vg1 := (Bg.out.2 1 _ rfl).1
  have vg2 := (Bg.out.2 2 _ rfl).1
  have vg3 := (Bg.out.2 3 _ rfl).1
  go_wp2_with fail
  refine (heldDevice_any g1.out g2.out (by omega) (by omega) (by omega) (by omega) hl_g1 hl_g2).mono ?_
  clear vgl vg0 vg1 vg2 vg3
  rintro e w18 ⟨rfl, hb⟩
  (try simp only [World.size_alloc, World.size_setCell, World.size_drew] at hb)
  have HB := Lib.hid hb
  clear hb
  have s18 := HB.out.size
  (try simp only [World.size_alloc, World.size_setCell, World.size_drew] at s18)
  replace a01 := Lib.hid (a01.out.below HB.out (by omega))
  replace a11 := Lib.hid (a11.out.below HB.out (by omega))
  replace u1 := Lib.hid (u1.out.below HB.out (by omega))
  replace u2 := Lib.hid (u2.out.below HB.out (by omega))
  replace Bu := Lib.hid (Bu.out.below HB.out (by omega))
  replace g1 := Lib.hid (g1.out.below HB.out (by omega))
  replace g2 := Lib.hid (g2.out.below HB.out (by omega))
  replace Bg := Lib.hid (Bg.out.below HB.out (by omega))
  replace EB := Lib.hid (below_step HB.out EB.out (by omega))
  clear HB
  go_wp2_with fail
  refine (toIntS_b a01.out (by omega) hn0).mono ?_
  rintro e w19 ⟨Ar0, cr0, rfl, hcr0, hb, hd⟩
  (try simp only [World.size_alloc, World.size_setCell, World.size_drew] at hb)
  have HB := Lib.hid hb
  clear hb
  have s19 := HB.out.size
  (try simp only [World.size_alloc, World.size_setCell, World.size_drew] at s19)
  replace a01 := Lib.hid (a01.out.below HB.out (by omega))
  replace a11 := Lib.hid (a11.out.below HB.out (by omega))
  replace u1 := Lib.hid (u1.out.below HB.out (by omega))
  replace u2 := Lib.hid (u2.out.below HB.out (by omega))
  replace Bu := Lib.hid (Bu.out.below HB.out (by omega))
  replace g1 := Lib.hid (g1.out.below HB.out (by omega))
  replace g2 := Lib.hid (g2.out.below HB.out (by omega))
  replace Bg := Lib.hid (Bg.out.below HB.out (by omega))
  replace EB := Lib.hid (below_step HB.out EB.out (by omega))
  clear HB
  have r01 := Lib.hid hd
  clear hd
  go_wp2_with fail
  refine (toIntS_b a11.out (by omega) hn1).mono ?_
  rintro e w20 ⟨Ar1, cr1, rfl, hcr1, hb, hd⟩
  (try simp only [World.size_alloc, World.size_setCell, World.size_drew] at hb)
  have HB := Lib.hid hb
  clear hb
  have s20 := HB.out.size
  (try simp only [World.size_alloc, World.size_setCell, World.size_drew] at s20)
  replace a01 := Lib.hid (a01.out.below HB.out (by omega))
  replace a11 := Lib.hid (a11.out.below HB.out (by omega))
  replace u1 := Lib.hid (u1.out.below HB.out (by omega))
  replace u2 := Lib.hid (u2.out.below HB.out (by omega))
  replace Bu := Lib.hid (Bu.out.below HB.out (by omega))
  replace g1 := Lib.hid (g1.out.below HB.out (by omega))
  replace g2 := Lib.hid (g2.out.below HB.out (by omega))
  replace Bg := Lib.hid (Bg.out.below HB.out (by omega))
  replace r01 := Lib.hid (r01.out.below HB.out (by omega))
  replace EB := Lib.hid (below_step HB.out EB.out (by omega))
  clear HB
  have r11 := Lib.hid hd
  clear hd
  go_wp2_with fail
  refine (NewDevice_x r01.out r11.out (by omega) (by omega) hcr0 hcr1 hn0 hn1).mono ?_
  rintro e w21 ⟨Ah, nh, ch, Ah', nh', ch', rfl, ⟨_, _⟩, hb, ⟨hd, hd', ha, _, _⟩⟩
  (try simp only [World.size_alloc, World.size_setCell, World.size_drew] at hb)
  have HB := Lib.hid hb
  clear hb
  have s21 := HB.out.size
  (try simp only [World.size_alloc, World.size_setCell, World.size_drew] at s21)
  replace a01 := Lib.hid (a01.out.below HB.out (by omega))
  replace a11 := Lib.hid (a11.out.below HB.out (by omega))
  replace u1 := Lib.hid (u1.out.below HB.out (by omega))
  replace u2 := Lib.hid (u2.out.below HB.out (by omega))
  replace Bu := Lib.hid (Bu.out.below HB.out (by omega))
  replace g1 := Lib.hid (g1.out.below HB.out (by omega))
  replace g2 := Lib.hid (g2.out.below HB.out (by omega))
  replace Bg := Lib.hid (Bg.out.below HB.out (by omega))
  replace r01 := Lib.hid (r01.out.below HB.out (by omega))
  replace r11 := Lib.hid (r11.out.below HB.out (by omega))
  replace EB := Lib.hid (below_step HB.out EB.out (by omega))
  clear HB
  have h1 := Lib.hid hd
  have h2 := Lib.hid hd'
  clear hd hd'
  have h1_h2 := Lib.hid ha
  clear ha
  obtain ⟨hx0, hx1⟩ := newOut_le D0 D1
  have hl_h1 : nh ≤ 1048576 := by have := h1.out.len; omega
  have hl_h2 : nh' ≤ 1048576 := by have := h2.out.len; omega
  clear hx0 hx1
  clear r01 r11
  have vul := Bu.out.lt
  have vu0 := (Bu.out.2 0 _ rfl).1
  have vu1 := (Bu.out.2 1 _ rfl).1
  have vu2 := (Bu.out.2 2 _ rfl).1
  have vu3 := (Bu.out.2 3 _ rfl).1
  go_wp2_with fail
  clear vul vu0 vu1 vu2 vu3
  replace a01 := Lib.hid (a01.out.alloc (by omega) (.cells #[.slice Ah nh ch, .int .i64 ((newOut D0 D1).1.p), .slice Ah' nh' ch', .int .i64 ((newOut D0 D1).1.q)] 27))
  replace a11 := Lib.hid (a11.out.alloc (by omega) (.cells #[.slice Ah nh ch, .int .i64 ((newOut D0 D1).1.p), .slice Ah' nh' ch', .int .i64 ((newOut D0 D1).1.q)] 27))
  replace u1 := Lib.hid (u1.out.alloc (by omega) (.cells #[.slice Ah nh ch, .int .i64 ((newOut D0 D1).1.p), .slice Ah' nh' ch', .int .i64 ((newOut D0 D1).1.q)] 27))
  replace u2 := Lib.hid (u2.out.alloc (by omega) (.cells #[.slice Ah nh ch, .int .i64 ((newOut D0 D1).1.p), .slice Ah' nh' ch', .int .i64 ((newOut D0 D1).1.q)] 27))
  replace Bu := Lib.hid (Bu.out.alloc (.cells #[.slice Ah nh ch, .int .i64 ((newOut D0 D1).1.p), .slice Ah' nh' ch', .int .i64 ((newOut D0 D1).1.q)] 27))
  replace g1 := Lib.hid (g1.out.alloc (by omega) (.cells #[.slice Ah nh ch, .int .i64 ((newOut D0 D1).1.p), .slice Ah' nh' ch', .int .i64 ((newOut D0 D1).1.q)] 27))
  replace g2 := Lib.hid (g2.out.alloc (by omega) (.cells #[.slice Ah nh ch, .int .i64 ((newOut D0 D1).1.p), .slice Ah' nh' ch', .int .i64 ((newOut D0 D1).1.q)] 27))
  replace Bg := Lib.hid (Bg.out.alloc (.cells #[.slice Ah nh ch, .int .i64 ((newOut D0 D1).1.p), .slice Ah' nh' ch', .int .i64 ((newOut D0 D1).1.q)] 27))
  replace h1 := Lib.hid (h1.out.alloc (by omega) (.cells #[.slice Ah nh ch, .int .i64 ((newOut D0 D1).1.p), .slice Ah' nh' ch', .int .i64 ((newOut D0 D1).1.q)] 27))
  replace h2 := Lib.hid (h2.out.alloc (by omega) (.cells #[.slice Ah nh ch, .int .i64 ((newOut D0 D1).1.p), .slice Ah' nh' ch', .int .i64 ((newOut D0 D1).1.q)] 27))
  replace EB := Lib.hid (EB.out.alloc (by omega) (.cells #[.slice Ah nh ch, .int .i64 ((newOut D0 D1).1.p), .slice Ah' nh' ch', .int .i64 ((newOut D0 D1).1.q)] 27))
  have Bh := Lib.hid (Box.new w21 27 [.slice Ah nh ch, .int .i64 ((newOut D0 D1).1.p), .slice Ah' nh' ch', .int .i64 ((newOut D0 D1).1.q)])
  have s22 : w21.heap.size + 1 ≤ (w21.alloc (.cells #[.slice Ah nh ch, .int .i64 ((newOut D0 D1).1.p), .slice Ah' nh' ch', .int .i64 ((newOut D0 D1).1.q)] 27)).heap.size := by simp
  generalize w21.alloc (.cells #[.slice Ah nh ch, .int .i64 ((newOut D0 D1).1.p), .slice Ah' nh' ch', .int .i64 ((newOut D0 D1).1.q)] 27) = w22 at *
  refine (eqDevice_same h1.out h2.out u1.out u2.out (by omega) (by omega) (by omega) (by omega)).mono ?_
  rintro e w23 ⟨rfl, hb⟩
  (try simp only [World.size_alloc, World.size_setCell, World.size_drew] at hb)
  have HB := Lib.hid hb
  clear hb
  have s23 := HB.out.size
  (try simp only [World.size_alloc, World.size_setCell, World.size_drew] at s23)
  replace a01 := Lib.hid (a01.out.below HB.out (by omega))
  replace a11 := Lib.hid (a11.out.below HB.out (by omega))
  replace u1 := Lib.hid (u1.out.below HB.out (by omega))
  replace u2 := Lib.hid (u2.out.below HB.out (by omega))
  replace Bu := Lib.hid (Bu.out.below HB.out (by omega))
  replace g1 := Lib.hid (g1.out.below HB.out (by omega))
  replace g2 := Lib.hid (g2.out.below HB.out (by omega))
  replace Bg := Lib.hid (Bg.out.below HB.out (by omega))
  replace h1 := Lib.hid (h1.out.below HB.out (by omega))
  replace h2 := Lib.hid (h2.out.below HB.out (by omega))
  replace Bh := Lib.hid (Bh.out.below HB.out (by omega))
  replace EB := Lib.hid (below_step HB.out EB.out (by omega))
  clear HB
  have vgl := Bg.out.lt
  have vg0 := (Bg.out.2 0 _ rfl).1
  have vg1 := (Bg.out.2 1 _ rfl).1
  have vg2 := (Bg.out.2 2 _ rfl).1
  have vg3 := (Bg.out.2 3 _ rfl).1
  go_wp2_with fail
  refine (heldDevice_any g1.out g2.out (by omega) (by omega) (by omega) (by omega) hl_g1 hl_g2).mono ?_
  clear vgl vg0 vg1 vg2 vg3
  rintro e w24 ⟨rfl, hb⟩
  (try simp only [World.size_alloc, World.size_setCell, World.size_drew] at hb)
  have HB := Lib.hid hb
  clear hb
  have s24 := HB.out.size
  (try simp only [World.size_alloc, World.size_setCell, World.size_drew] at s24)
  replace a01 := Lib.hid (a01.out.below HB.out (by omega))
  replace a11 := Lib.hid (a11.out.below HB.out (by omega))
  replace u1 := Lib.hid (u1.out.below HB.out (by omega))
  replace u2 := Lib.hid (u2.out.below HB.out (by omega))
  replace Bu := Lib.hid (Bu.out.below HB.out (by omega))
  replace g1 := Lib.hid (g1.out.below HB.out (by omega))
  replace g2 := Lib.hid (g2.out.below HB.out (by omega))
  replace Bg := Lib.hid (Bg.out.below HB.out (by omega))
  replace h1 := Lib.hid (h1.out.below HB.out (by omega))
  replace h2 := Lib.hid (h2.out.below HB.out (by omega))
  replace Bh := Lib.hid (Bh.out.below HB.out (by omega))
  replace EB := Lib.hid (below_step HB.out EB.out (by omega))
  clear HB
  go_wp2
  go_ret
  exact ⟨rfl, EB.out⟩

theorem contract (H : Type) (enc : TypeId × Value → H) (W : World) (base : Nat) (args : Array Value) (ds gs : List (DataW H)) (before : List MemPlace)
    (hval : ∀ (j : Nat) t v, Try.f4.params[j]? = some t → args[j]? = some v → Value.okWide Try.prog W .any base t v)
    (hW : DataW.Whole enc Try.prog Try.f4.params.toList Rows.fnExactNewDeviceSpec.vars false W args.toList ds gs before) :
    Calls Try.prog 4 args W fun e W' => ∃ v, e = .returned v ∧ Rows.fnExactNewDeviceSpec.post enc Try.prog Try.f4 false true false false W args v W' := by
  have hW' := hW
  have hlt : ∀ p ∈ before, p.block < W.heap.size := fun p hp => hW.lt p hp
  obtain ⟨p, q, hA0, hV, rfl, hfz, hnd⟩ := hW
  have hA : DataW.TrodAll enc Try.prog W 0 (fun _ => true) true Try.f4.params.toList args.toList ds p := hA0
  rw [Try.params4] at hA hval
  obtain ⟨v0, vs0, d0, ds0, p0, q0, hargs, rfl, rfl, h0, r0⟩ := trodAll_cons hA
  obtain ⟨v1, vs1, d1, ds1, p1, q1, rfl, rfl, rfl, h1, r1⟩ := trodAll_cons r0
  obtain ⟨rfl, rfl, rfl⟩ := trodAll_nil r1
  obtain rfl : args = #[v0, v1] := by cases args; simp_all
  obtain ⟨rfl, rfl⟩ := trodVars_none hV
  obtain ⟨A, n, c, D, rfl, _, hD0⟩ := arg_intsv (hval 0 _ v0 rfl rfl) h0 (fun p hp => hlt p (by simp [hp])) (fun b o hp => hfz b o (by simp [hp]))
  obtain ⟨A, n, c, D, rfl, _, hD1⟩ := arg_intsv (hval 1 _ v1 rfl rfl) h1 (fun p hp => hlt p (by simp [hp])) (fun b o hp => hfz b o (by simp [hp]))
  refine (walk _ _ _ _ _ _ _ _ W hD0 hD1).mono fun e W' hh => ?_
  obtain ⟨rfl, hb⟩ := hh
  exact ⟨_, rfl, law_post laidOut (tys_of (by rw [Try.params4]; kernel_rfl)) hW' rfl rfl rfl Try.underlying4 hb⟩

set_option maxRecDepth 100000 in
theorem lifted (os : Os) (started : os.Started) (H : Type) (enc : TypeId × Value → H) :
    ReturnsInHanded {} Try.checked os 4 .any (Rows.fnExactNewDeviceSpec.pre6 enc Try.prog Try.f4 Rows.fnExactNewDeviceRow.domain false) (Rows.fnExactNewDeviceSpec.post enc Try.prog Try.f4 false true false false) := by
  refine returnsInHanded_of_change (C := Try.checked) own started (by kernel_rfl) Try.func4
    (ChangeSpec.witness6 (C := Try.checked) false ⟨#[], #[.slice none 0 0, .slice none 0 0], []⟩ 8 (by kernel_rfl) (by kernel_rfl) (by kernel_rfl) (by kernel_rfl)) ?_
  intro W base args ds gs before hval hW _ _
  exact contract H enc W base args ds gs before hval hW

theorem holds : Rows.FnExactNewDeviceSaid :=
  OpenClaim.holds_of_wide 4 Try.f4 rfl rfl rfl rfl rfl rfl rfl ⟨rfl, rfl, rfl, rfl, rfl⟩ rfl rfl rfl rfl rfl (by kernel_rfl) Try.func4 (by kernel_rfl)
    (of_decide_eq_true (by kernel_rfl)) (by unfold Func.isWrapper; first | (rw [if_pos (by decide +kernel)]; kernel_rfl) | (rw [if_neg (by decide +kernel)]; exact ⟨rfl, rfl⟩))
    (fun os started H enc _ => lifted os started H enc)
end ExactNewDevice
end Go.Proofs.Ytjilbjkmnmbfeaa
