/- The exact law of NewlineIn: for all arguments the function answers as its model, and writes into none. -/
import Derived.Test.YtlekbmlacinkdabLawBase
import Derived.Test.YtlekbmlacinkdabN9
set_option maxRecDepth 10000
namespace Go.Proofs.Ytlekbmlacinkdab
open Go.ChangeShapes Go.WideShapes Go.ChangeAt Go.RowKit
set_option linter.unusedSimpArgs false
set_option linter.unusedVariables false
namespace ExactNewlineIn
set_option maxHeartbeats 16000000 in
theorem walk (b0 : Bool) (s0 : Int) (A1 : Option Addr) (n1 c1 : Nat) (D1 : List Int) (f2 : Bool) (w : World) (hs0 : okInt s0) (h1 : Ints w 0 w.heap.size A1 n1 D1) :
    Calls Try.prog 3 #[.agg #[.bool b0, .int .i64 s0], .slice A1 n1 c1, .bool f2] w (BoolB true w) := by
  have HLa1 := Lib.hid h1.len
  have hm1 := h1.max
  have a11 := Lib.hid h1
  clear h1
  have EB := Lib.hid (Below.refl w.heap.size w)
  replace a11 := Lib.hid (a11.out.alloc (Nat.le_refl _) (.cells #[.bool (b0), .int .i64 (s0)] 23))
  replace EB := Lib.hid (EB.out.alloc (Nat.le_refl _) (.cells #[.bool (b0), .int .i64 (s0)] 23))
  have Ba0 := Lib.hid (Box.new w 23 [.bool (b0), .int .i64 (s0)])
  go_enter Try.func3, Try.ntmps3
  go_wp2_with fail
  · go_ret
    exact ⟨rfl, (by go_grown)⟩
  have hn1 : n1 ≤ 1048576 := by omega
  refine (toNl_any).mono ?_
  rintro e w1 ⟨rfl, hb⟩
  (try simp only [World.size_alloc, World.size_setCell, World.size_drew] at hb)
  have HB := Lib.hid hb
  clear hb
  have s1 := HB.out.size
  (try simp only [World.size_alloc, World.size_setCell, World.size_drew] at s1)
  replace a11 := Lib.hid (a11.out.below HB.out (by omega))
  replace Ba0 := Lib.hid (Ba0.out.below HB.out (by omega))
  replace EB := Lib.hid (below_step HB.out EB.out (by omega))
  clear HB
  go_wp2_with fail
  refine (toIntS_b a11.out (by omega) hn1).mono ?_
  rintro e w2 ⟨At, ct, rfl, hct, hb, hd⟩
  (try simp only [World.size_alloc, World.size_setCell, World.size_drew] at hb)
  have HB := Lib.hid hb
  clear hb
  have s2 := HB.out.size
  (try simp only [World.size_alloc, World.size_setCell, World.size_drew] at s2)
  replace a11 := Lib.hid (a11.out.below HB.out (by omega))
  replace Ba0 := Lib.hid (Ba0.out.below HB.out (by omega))
  replace EB := Lib.hid (below_step HB.out EB.out (by omega))
  clear HB
  have t1 := Lib.hid hd
  clear hd
  go_wp2_with fail
  refine (SNewlineIn_x t1.out (by omega) hct hs0).mono ?_
  rintro e w3 ⟨Lu, mu, du, rfl, _, hb, hl⟩
  (try simp only [World.size_alloc, World.size_setCell, World.size_drew] at hb)
  have HB := Lib.hid hb
  clear hb
  have s3 := HB.out.size
  (try simp only [World.size_alloc, World.size_setCell, World.size_drew] at s3)
  replace a11 := Lib.hid (a11.out.below HB.out (by omega))
  replace Ba0 := Lib.hid (Ba0.out.below HB.out (by omega))
  replace t1 := Lib.hid (t1.out.below HB.out (by omega))
  replace EB := Lib.hid (below_step HB.out EB.out (by omega))
  clear HB
  have u1 := Lib.hid hl
  clear hl
  have hl_u1 : mu ≤ 1048576 := by have := u1.out.len; have := nlM_le b0 f2 s0 D1; omega
  clear t1
  go_wp2_with fail
  replace a11 := Lib.hid (a11.out.alloc (by omega) (.cells #[.bool (niH b0 f2 s0 D1), .int .i64 (niS b0 f2 s0 D1)] 25))
  replace Ba0 := Lib.hid (Ba0.out.alloc (.cells #[.bool (niH b0 f2 s0 D1), .int .i64 (niS b0 f2 s0 D1)] 25))
  replace u1 := Lib.hid (u1.out.alloc (by omega) (.cells #[.bool (niH b0 f2 s0 D1), .int .i64 (niS b0 f2 s0 D1)] 25))
  replace EB := Lib.hid (EB.out.alloc (by omega) (.cells #[.bool (niH b0 f2 s0 D1), .int .i64 (niS b0 f2 s0 D1)] 25))
  have BuN := Lib.hid (Box.new w3 25 [.bool (niH b0 f2 s0 D1), .int .i64 (niS b0 f2 s0 D1)])
  have s4 : w3.heap.size + 1 ≤ (w3.alloc (.cells #[.bool (niH b0 f2 s0 D1), .int .i64 (niS b0 f2 s0 D1)] 25)).heap.size := by simp
  generalize w3.alloc (.cells #[.bool (niH b0 f2 s0 D1), .int .i64 (niS b0 f2 s0 D1)] 25) = w4 at *
  refine (toIntS_b a11.out (by omega) hn1).mono ?_
  rintro e w5 ⟨Ax, cx, rfl, hcx, hb, hd⟩
  (try simp only [World.size_alloc, World.size_setCell, World.size_drew] at hb)
  have HB := Lib.hid hb
  clear hb
  have s5 := HB.out.size
  (try simp only [World.size_alloc, World.size_setCell, World.size_drew] at s5)
  replace a11 := Lib.hid (a11.out.below HB.out (by omega))
  replace Ba0 := Lib.hid (Ba0.out.below HB.out (by omega))
  replace u1 := Lib.hid (u1.out.below HB.out (by omega))
  replace BuN := Lib.hid (BuN.out.below HB.out (by omega))
  replace EB := Lib.hid (below_step HB.out EB.out (by omega))
  clear HB
  have x1 := Lib.hid hd
  clear hd
  have va0l := Ba0.out.lt
  have va00 := (Ba0.out.2 0 _ rfl).1
  have va01 := (Ba0.out.2 1 _ rfl).1
  go_wp2_with fail
  refine (toNl_any).mono ?_
  clear va0l va00 va01
  rintro e w6 ⟨rfl, hb⟩
  (try simp only [World.size_alloc, World.size_setCell, World.size_drew] at hb)
  have HB := Lib.hid hb
  clear hb
  have s6 := HB.out.size
  (try simp only [World.size_alloc, World.size_setCell, World.size_drew] at s6)
  replace a11 := Lib.hid (a11.out.below HB.out (by omega))
  replace Ba0 := Lib.hid (Ba0.out.below HB.out (by omega))
  replace u1 := Lib.hid (u1.out.below HB.out (by omega))
  replace BuN := Lib.hid (BuN.out.below HB.out (by omega))
  replace x1 := Lib.hid (x1.out.below HB.out (by omega))
  replace EB := Lib.hid (below_step HB.out EB.out (by omega))
  clear HB
  go_wp2_with fail
  refine (NewlineIn_x x1.out (by omega) hcx hs0).mono ?_
  rintro e w7 ⟨Lg, mg, dg, rfl, _, hb, hl⟩
  (try simp only [World.size_alloc, World.size_setCell, World.size_drew] at hb)
  have HB := Lib.hid hb
  clear hb
  have s7 := HB.out.size
  (try simp only [World.size_alloc, World.size_setCell, World.size_drew] at s7)
  replace a11 := Lib.hid (a11.out.below HB.out (by omega))
  replace Ba0 := Lib.hid (Ba0.out.below HB.out (by omega))
  replace u1 := Lib.hid (u1.out.below HB.out (by omega))
  replace BuN := Lib.hid (BuN.out.below HB.out (by omega))
  replace x1 := Lib.hid (x1.out.below HB.out (by omega))
  replace EB := Lib.hid (below_step HB.out EB.out (by omega))
  clear HB
  have g1 := Lib.hid hl
  clear hl
  have hl_g1 : mg ≤ 1048576 := by have := g1.out.len; have := nlM_le b0 f2 s0 D1; omega
  have vuNl := BuN.out.lt
  have vuN0 := (BuN.out.2 0 _ rfl).1
  have vuN1 := (BuN.out.2 1 _ rfl).1
  go_wp2_with fail
  clear vuNl vuN0 vuN1
  replace a11 := Lib.hid (a11.out.alloc (by omega) (.cells #[.bool (niH b0 f2 s0 D1), .int .i64 (niS b0 f2 s0 D1)] 25))
  replace Ba0 := Lib.hid (Ba0.out.alloc (.cells #[.bool (niH b0 f2 s0 D1), .int .i64 (niS b0 f2 s0 D1)] 25))
  replace u1 := Lib.hid (u1.out.alloc (by omega) (.cells #[.bool (niH b0 f2 s0 D1), .int .i64 (niS b0 f2 s0 D1)] 25))
  replace BuN := Lib.hid (BuN.out.alloc (.cells #[.bool (niH b0 f2 s0 D1), .int .i64 (niS b0 f2 s0 D1)] 25))
  replace x1 := Lib.hid (x1.out.alloc (by omega) (.cells #[.bool (niH b0 f2 s0 D1), .int .i64 (niS b0 f2 s0 D1)] 25))
  replace g1 := Lib.hid (g1.out.alloc (by omega) (.cells #[.bool (niH b0 f2 s0 D1), .int .i64 (niS b0 f2 s0 D1)] 25))
  replace EB := Lib.hid (EB.out.alloc (by omega) (.cells #[.bool (niH b0 f2 s0 D1), .int .i64 (niS b0 f2 s0 D1)] 25))
  have BgN := Lib.hid (Box.new w7 25 [.bool (niH b0 f2 s0 D1), .int .i64 (niS b0 f2 s0 D1)])
  have s8 : w7.heap.size + 1 ≤ (w7.alloc (.cells #[.bool (niH b0 f2 s0 D1), .int .i64 (niS b0 f2 s0 D1)] 25)).heap.size := by simp
  generalize w7.alloc (.cells #[.bool (niH b0 f2 s0 D1), .int .i64 (niS b0 f2 s0 D1)] 25) = w8 at *
  refine (eqNl_same).mono ?_
  rintro e w9 ⟨rfl, hb⟩
  (try simp only [World.size_alloc, World.size_setCell, World.size_drew] at hb)
  have HB := Lib.hid hb
  clear hb
  have s9 := HB.out.size
  (try simp only [World.size_alloc, World.size_setCell, World.size_drew] at s9)
  replace a11 := Lib.hid (a11.out.below HB.out (by omega))
  replace Ba0 := Lib.hid (Ba0.out.below HB.out (by omega))
  replace u1 := Lib.hid (u1.out.below HB.out (by omega))
  replace BuN := Lib.hid (BuN.out.below HB.out (by omega))
  replace x1 := Lib.hid (x1.out.below HB.out (by omega))
  replace g1 := Lib.hid (g1.out.below HB.out (by omega))
  replace BgN := Lib.hid (BgN.out.below HB.out (by omega))
  replace EB := Lib.hid (below_step HB.out EB.out (by omega))
  clear HB
  go_wp2_with fail
  refine (eqIntS_same g1.out u1.out).mono ?_
  rintro e w10 ⟨rfl, hb⟩
  (try simp only [World.size_alloc, World.size_setCell, World.size_drew] at hb)
  have HB := Lib.hid hb
  clear hb
  have s10 := HB.out.size
  (try simp only [World.size_alloc, World.size_setCell, World.size_drew] at s10)
  replace a11 := Lib.hid (a11.out.below HB.out (by omega))
  replace Ba0 := Lib.hid (Ba0.out.below HB.out (by omega))
  replace u1 := Lib.hid (u1.out.below HB.out (by omega))
  replace BuN := Lib.hid (BuN.out.below HB.out (by omega))
  replace x1 := Lib.hid (x1.out.below HB.out (by omega))
  replace g1 := Lib.hid (g1.out.below HB.out (by omega))
  replace BgN := Lib.hid (BgN.out.below HB.out (by omega))
  replace EB := Lib.hid (below_step HB.out EB.out (by omega))
  clear HB
  go_wp2_with fail
  refine (toIntS_b a11.out (by omega) hn1).mono ?_
  rintro e w11 ⟨Ak, ck, rfl, hck, hb, hd⟩
  (try simp only [World.size_alloc, World.size_setCell, World.size_drew] at hb)
  have HB := Lib.hid hb
  clear hb
  have s11 := HB.out.size
  (try simp only [World.size_alloc, World.size_setCell, World.size_drew] at s11)
  replace a11 := Lib.hid (a11.out.below HB.out (by omega))
  replace Ba0 := Lib.hid (Ba0.out.below HB.out (by omega))
  replace u1 := Lib.hid (u1.out.below HB.out (by omega))
  replace BuN := Lib.hid (BuN.out.below HB.out (by omega))
  replace x1 := Lib.hid (x1.out.below HB.out (by omega))
  replace g1 := Lib.hid (g1.out.below HB.out (by omega))
  replace BgN := Lib.hid (BgN.out.below HB.out (by omega))
  replace EB := Lib.hid (below_step HB.out EB.out (by omega))
  clear HB
  have k1 := Lib.hid hd
  clear hd
  go_wp2_with fail
  refine (eqIntS_same x1.out k1.out).mono ?_
  rintro e w12 ⟨rfl, hb⟩
  (try simp only [World.size_alloc, World.size_setCell, World.size_drew] at hb)
  have HB := Lib.hid hb
  clear hb
  have s12 := HB.out.size
  (try simp only [World.size_alloc, World.size_setCell, World.size_drew] at s12)
  replace a11 := Lib.hid (a11.out.below HB.out (by omega))
  replace Ba0 := Lib.hid (Ba0.out.below HB.out (by omega))
  replace u1 := Lib.hid (u1.out.below HB.out (by omega))
  replace BuN := Lib.hid (BuN.out.below HB.out (by omega))
  replace x1 := Lib.hid (x1.out.below HB.out (by omega))
  replace g1 := Lib.hid (g1.out.below HB.out (by omega))
  replace BgN := Lib.hid (BgN.out.below HB.out (by omega))
  replace k1 := Lib.hid (k1.out.below HB.out (by omega))
  replace EB := Lib.hid (below_step HB.out EB.out (by omega))
  clear HB
  clear k1
  go_wp2_with fail
  refine (markIntS_any x1.out (by omega) (by omega) hn1).mono ?_
  rintro e w13 ⟨rfl, hm, hi0⟩
  have HM := Lib.hid hm
  have s13 := HM.out.size
  clear hm
  replace EB := Lib.hid (below_mark EB.out HM.out x1.out (by omega))
  replace a11 := Lib.hid (a11.out.mark HM.out (Apart.of_le a11.out x1.out (by omega)).symm)
  replace Ba0 := Lib.hid (Ba0.out.mark HM.out x1.out (by omega))
  replace u1 := Lib.hid (u1.out.mark HM.out (Apart.of_le u1.out x1.out (by omega)).symm)
  replace BuN := Lib.hid (BuN.out.mark HM.out x1.out (by omega))
  replace g1 := Lib.hid (g1.out.mark HM.out (Apart.of_le x1.out g1.out (by omega)))
  replace BgN := Lib.hid (BgN.out.mark HM.out x1.out (by omega))
  replace x1 := Lib.hid hi0
  clear HM hi0
  clear x1
  have vgNl := BgN.out.lt
  have vgN0 := (BgN.out.2 0 _ rfl).1
  have vgN1 := (BgN.out.2 1 _ rfl).1
  have vuNl := BuN.out.lt
  have vuN0 := (BuN.out.2 0 _ rfl).1
  have vuN1 := (BuN.out.2 1 _ rfl).1
  go_wp2_with fail
  refine (eqNl_same).mono ?_
  clear vgNl vgN0 vgN1 vuNl vuN0 vuN1
  rintro e w14 ⟨rfl, hb⟩
  (try simp only [World.size_alloc, World.size_setCell, World.size_drew] at hb)
  have HB := Lib.hid hb
  clear hb
  have s14 := HB.out.size
  (try simp only [World.size_alloc, World.size_setCell, World.size_drew] at s14)
  replace a11 := Lib.hid (a11.out.below HB.out (by omega))
  replace Ba0 := Lib.hid (Ba0.out.below HB.out (by omega))
  replace u1 := Lib.hid (u1.out.below HB.out (by omega))
  replace BuN := Lib.hid (BuN.out.below HB.out (by omega))
  replace g1 := Lib.hid (g1.out.below HB.out (by omega))
  replace BgN := Lib.hid (BgN.out.below HB.out (by omega))
  replace EB := Lib.hid (below_step HB.out EB.out (by omega))
  clear HB
  go_wp2_with fail
  refine (eqIntS_same g1.out u1.out).mono ?_
  rintro e w15 ⟨rfl, hb⟩
  (try simp only [World.size_alloc, World.size_setCell, World.size_drew] at hb)
  have HB := Lib.hid hb
  clear hb
  have s15 := HB.out.size
  (try simp only [World.size_alloc, World.size_setCell, World.size_drew] at s15)
  replace a11 := Lib.hid (a11.out.below HB.out (by omega))
  replace Ba0 := Lib.hid (Ba0.out.below HB.out (by omega))
  replace u1 := Lib.hid (u1.out.below HB.out (by omega))
  replace BuN := Lib.hid (BuN.out.below HB.out (by omega))
  replace g1 := Lib.hid (g1.out.below HB.out (by omega))
  replace BgN := Lib.hid (BgN.out.below HB.out (by omega))
  replace EB := Lib.hid (below_step HB.out EB.out (by omega))
  clear HB
  go_wp2_with fail
  refine (markIntS_any g1.out (by omega) (by omega) hl_g1).mono ?_
  rintro e w16 ⟨rfl, hm, hi0⟩
  have HM := Lib.hid hm
  have s16 := HM.out.size
  clear hm
  replace EB := Lib.hid (below_mark EB.out HM.out g1.out (by omega))
  replace a11 := Lib.hid (a11.out.mark HM.out (Apart.of_le a11.out g1.out (by omega)).symm)
  replace Ba0 := Lib.hid (Ba0.out.mark HM.out g1.out (by omega))
  replace u1 := Lib.hid (u1.out.mark HM.out (Apart.of_le u1.out g1.out (by omega)).symm)
  replace BuN := Lib.hid (BuN.out.mark HM.out g1.out (by omega))
  replace BgN := Lib.hid (BgN.out.mark HM.out g1.out (by omega))
  replace g1 := Lib.hid hi0
  clear HM hi0
  go_wp2_with fail
  refine (heldIntS_b g1.out (by omega) (by omega) hl_g1).mono ?_
  rintro e w17 ⟨rfl, hb⟩
  (try simp only [World.size_alloc, World.size_setCell, World.size_drew] at hb)
  have HB := Lib.hid hb
  clear hb
  have s17 := HB.out.size
  (try simp only [World.size_alloc, World.size_setCell, World.size_drew] at s17)
  replace a11 := Lib.hid (a11.out.below HB.out (by omega))
  replace Ba0 := Lib.hid (Ba0.out.below HB.out (by omega))
  replace u1 := Lib.hid (u1.out.below HB.out (by omega))
  replace BuN := Lib.hid (BuN.out.below HB.out (by omega))
  replace g1 := Lib.hid (g1.out.below HB.out (by omega))
  replace BgN := Lib.hid (BgN.out.below HB.out (by omega))
  replace EB := Lib.hid (below_step HB.out EB.out (by omega))
  clear HB
  have va0l := Ba0.out.lt
  have va00 := (Ba0.out.2 0 _ rfl).1
  have va01 := (Ba0.out.2 1 _ rfl).1
  go_wp2_with fail
  refine (toNl_any).mono ?_
  clear va0l va00 va01
  rintro e w18 ⟨rfl, hb⟩
  (try simp only [World.size_alloc, World.size_setCell, World.size_drew] at hb)
  have HB := Lib.hid hb
  clear hb
  have s18 := HB.out.size
  (try simp only [World.size_alloc, World.size_setCell, World.size_drew] at s18)
  replace a11 := Lib.hid (a11.out.below HB.out (by omega))
  replace Ba0 := Lib.hid (Ba0.out.below HB.out (by omega))
  replace u1 := Lib.hid (u1.out.below HB.out (by omega))
  replace BuN := Lib.hid (BuN.out.below HB.out (by omega))
  replace g1 := Lib.hid (g1.out.below HB.out (by omega))
  replace BgN := Lib.hid (BgN.out.below HB.out (by omega))
  replace EB := Lib.hid (below_step HB.out EB.out (by omega))
  clear HB
  go_wp2_with fail
  refine (toIntS_b a11.out (by omega) hn1).mono ?_
  rintro e w19 ⟨Ar, cr, rfl, hcr, hb, hd⟩
  (try simp only [World.size_alloc, World.size_setCell, World.size_drew] at hb)
  have HB := Lib.hid hb
  clear hb
  have s19 := HB.out.size
  (try simp only [World.size_alloc, World.size_setCell, World.size_drew] at s19)
  replace a11 := Lib.hid (a11.out.below HB.out (by omega))
  replace Ba0 := Lib.hid (Ba0.out.below HB.out (by omega))
  replace u1 := Lib.hid (u1.out.below HB.out (by omega))
  replace BuN := Lib.hid (BuN.out.below HB.out (by omega))
  replace g1 := Lib.hid (g1.out.below HB.out (by omega))
  replace BgN := Lib.hid (BgN.out.below HB.out (by omega))
  replace EB := Lib.hid (below_step HB.out EB.out (by omega))
  clear HB
  have r1 := Lib.hid hd
  clear hd
  go_wp2_with fail
  refine (NewlineIn_x r1.out (by omega) hcr hs0).mono ?_
  rintro e w20 ⟨Lh, mh, dh, rfl, _, hb, hl⟩
  (try simp only [World.size_alloc, World.size_setCell, World.size_drew] at hb)
  have HB := Lib.hid hb
  clear hb
  have s20 := HB.out.size
  (try simp only [World.size_alloc, World.size_setCell, World.size_drew] at s20)
  replace a11 := Lib.hid (a11.out.below HB.out (by omega))
  replace Ba0 := Lib.hid (Ba0.out.below HB.out (by omega))
  replace u1 := Lib.hid (u1.out.below HB.out (by omega))
  replace BuN := Lib.hid (BuN.out.below HB.out (by omega))
  replace g1 := Lib.hid (g1.out.below HB.out (by omega))
  replace BgN := Lib.hid (BgN.out.below HB.out (by omega))
  replace r1 := Lib.hid (r1.out.below HB.out (by omega))
  replace EB := Lib.hid (below_step HB.out EB.out (by omega))
  clear HB
  have h1 := Lib.hid hl
  clear hl
  have hl_h1 : mh ≤ 1048576 := by have := h1.out.len; have := nlM_le b0 f2 s0 D1; omega
  clear r1
  have vuNl := BuN.out.lt
  have vuN0 := (BuN.out.2 0 _ rfl).1
  have vuN1 := (BuN.out.2 1 _ rfl).1
  go_wp2_with fail
  clear vuNl vuN0 vuN1
  replace a11 := Lib.hid (a11.out.alloc (by omega) (.cells #[.bool (niH b0 f2 s0 D1), .int .i64 (niS b0 f2 s0 D1)] 25))
  replace Ba0 := Lib.hid (Ba0.out.alloc (.cells #[.bool (niH b0 f2 s0 D1), .int .i64 (niS b0 f2 s0 D1)] 25))
  replace u1 := Lib.hid (u1.out.alloc (by omega) (.cells #[.bool (niH b0 f2 s0 D1), .int .i64 (niS b0 f2 s0 D1)] 25))
  replace BuN := Lib.hid (BuN.out.alloc (.cells #[.bool (niH b0 f2 s0 D1), .int .i64 (niS b0 f2 s0 D1)] 25))
  replace g1 := Lib.hid (g1.out.alloc (by omega) (.cells #[.bool (niH b0 f2 s0 D1), .int .i64 (niS b0 f2 s0 D1)] 25))
  replace BgN := Lib.hid (BgN.out.alloc (.cells #[.bool (niH b0 f2 s0 D1), .int .i64 (niS b0 f2 s0 D1)] 25))
  replace h1 := Lib.hid (h1.out.alloc (by omega) (.cells #[.bool (niH b0 f2 s0 D1), .int .i64 (niS b0 f2 s0 D1)] 25))
  replace EB := Lib.hid (EB.out.alloc (by omega) (.cells #[.bool (niH b0 f2 s0 D1), .int .i64 (niS b0 f2 s0 D1)] 25))
  have BhN := Lib.hid (Box.new w20 25 [.bool (niH b0 f2 s0 D1), .int .i64 (niS b0 f2 s0 D1)])
  have s21 : w20.heap.size + 1 ≤ (w20.alloc (.cells #[.bool (niH b0 f2 s0 D1), .int .i64 (niS b0 f2 s0 D1)] 25)).heap.size := by simp
  generalize w20.alloc (.cells #[.bool (niH b0 f2 s0 D1), .int .i64 (niS b0 f2 s0 D1)] 25) = w21 at *
  refine (eqNl_same).mono ?_
  rintro e w22 ⟨rfl, hb⟩
  (try simp only [World.size_alloc, World.size_setCell, World.size_drew] at hb)
  have HB := Lib.hid hb
  clear hb
  have s22 := HB.out.size
  (try simp only [World.size_alloc, World.size_setCell, World.size_drew] at s22)
  replace a11 := Lib.hid (a11.out.below HB.out (by omega))
  replace Ba0 := Lib.hid (Ba0.out.below HB.out (by omega))
  replace u1 := Lib.hid (u1.out.below HB.out (by omega))
  replace BuN := Lib.hid (BuN.out.below HB.out (by omega))
  replace g1 := Lib.hid (g1.out.below HB.out (by omega))
  replace BgN := Lib.hid (BgN.out.below HB.out (by omega))
  replace h1 := Lib.hid (h1.out.below HB.out (by omega))
  replace BhN := Lib.hid (BhN.out.below HB.out (by omega))
  replace EB := Lib.hid (below_step HB.out EB.out (by omega))
  clear HB
  go_wp2_with fail
  refine (eqIntS_same h1.out u1.out).mono ?_
  rintro e w23 ⟨rfl, hb⟩
  (try simp only [World.size_alloc, World.size_setCell, World.size_drew] at hb)
  have HB := Lib.hid hb
  clear hb
  have s23 := HB.out.size
  (try simp only [World.size_alloc, World.size_setCell, World.size_drew] at s23)
  replace a11 := Lib.hid (a11.out.below HB.out (by omega))
  replace Ba0 := Lib.hid (Ba0.out.below HB.out (by omega))
  replace u1 := Lib.hid (u1.out.below HB.out (by omega))
  replace BuN := Lib.hid (BuN.out.below HB.out (by omega))
  replace g1 := Lib.hid (g1.out.below HB.out (by omega))
  replace BgN := Lib.hid (BgN.out.below HB.out (by omega))
  replace h1 := Lib.hid (h1.out.below HB.out (by omega))
  replace BhN := Lib.hid (BhN.out.below HB.out (by omega))
  replace EB := Lib.hid (below_step HB.out EB.out (by omega))
  clear HB
  go_wp2_with fail
  refine (heldIntS_b g1.out (by omega) (by omega) hl_g1).mono ?_
  rintro e w24 ⟨rfl, hb⟩
  (try simp only [World.size_alloc, World.size_setCell, World.size_drew] at hb)
  have HB := Lib.hid hb
  clear hb
  have s24 := HB.out.size
  (try simp only [World.size_alloc, World.size_setCell, World.size_drew] at s24)
  replace a11 := Lib.hid (a11.out.below HB.out (by omega))
  replace Ba0 := Lib.hid (Ba0.out.below HB.out (by omega))
  replace u1 := Lib.hid (u1.out.below HB.out (by omega))
  replace BuN := Lib.hid (BuN.out.below HB.out (by omega))
  replace g1 := Lib.hid (g1.out.below HB.out (by omega))
  replace BgN := Lib.hid (BgN.out.below HB.out (by omega))
  replace h1 := Lib.hid (h1.out.below HB.out (by omega))
  replace BhN := Lib.hid (BhN.out.below HB.out (by omega))
  replace EB := Lib.hid (below_step HB.out EB.out (by omega))
  clear HB
  go_wp2
  go_ret
  exact ⟨rfl, EB.out⟩

theorem contract (H : Type) (enc : TypeId × Value → H) (W : World) (base : Nat) (args : Array Value) (ds gs : List (DataW H)) (before : List MemPlace)
    (hval : ∀ (j : Nat) t v, Try.f3.params[j]? = some t → args[j]? = some v → Value.okWide Try.prog W .any base t v)
    (hW : DataW.Whole enc Try.prog Try.f3.params.toList Rows.fnExactNewlineInSpec.vars false W args.toList ds gs before) :
    Calls Try.prog 3 args W fun e W' => ∃ v, e = .returned v ∧ Rows.fnExactNewlineInSpec.post enc Try.prog Try.f3 false true false false W args v W' := by
  have hW' := hW
  have hlt : ∀ p ∈ before, p.block < W.heap.size := fun p hp => hW.lt p hp
  obtain ⟨p, q, hA0, hV, rfl, hfz, hnd⟩ := hW
  have hA : DataW.TrodAll enc Try.prog W 0 (fun _ => true) true Try.f3.params.toList args.toList ds p := hA0
  rw [Try.params3] at hA hval
  obtain ⟨v0, vs0, d0, ds0, p0, q0, hargs, rfl, rfl, h0, r0⟩ := trodAll_cons hA
  obtain ⟨v1, vs1, d1, ds1, p1, q1, rfl, rfl, rfl, h1, r1⟩ := trodAll_cons r0
  obtain ⟨v2, vs2, d2, ds2, p2, q2, rfl, rfl, rfl, h2, r2⟩ := trodAll_cons r1
  obtain ⟨rfl, rfl, rfl⟩ := trodAll_nil r2
  obtain rfl : args = #[v0, v1, v2] := by cases args; simp_all
  obtain ⟨rfl, rfl⟩ := trodVars_none hV
  obtain ⟨b0, s0, rfl, hs0⟩ := arg_nl (hval 0 _ v0 rfl rfl) h0
  obtain ⟨A, n, c, D, rfl, _, hD1⟩ := arg_intsv (hval 1 _ v1 rfl rfl) h1 (fun p hp => hlt p (by simp [hp])) (fun b o hp => hfz b o (by simp [hp]))
  obtain ⟨f2, rfl⟩ := arg_boolv (hval 2 _ v2 rfl rfl) h2
  refine (walk _ _ _ _ _ _ _ W hs0 hD1).mono fun e W' hh => ?_
  obtain ⟨rfl, hb⟩ := hh
  exact ⟨_, rfl, law_post laidOut (tys_of (by rw [Try.params3]; kernel_rfl)) hW' rfl rfl rfl Try.underlying4 hb⟩

set_option maxRecDepth 100000 in
theorem lifted (os : Os) (started : os.Started) (H : Type) (enc : TypeId × Value → H) :
    ReturnsInHanded {} Try.checked os 3 .any (Rows.fnExactNewlineInSpec.pre6 enc Try.prog Try.f3 Rows.fnExactNewlineInRow.domain false) (Rows.fnExactNewlineInSpec.post enc Try.prog Try.f3 false true false false) := by
  refine returnsInHanded_of_change (C := Try.checked) own started (by kernel_rfl) Try.func3
    (ChangeSpec.witness6 (C := Try.checked) false ⟨#[], #[.agg #[.bool false, .int .i64 0], .slice none 0 0, .bool false], []⟩ 8 (by kernel_rfl) (by kernel_rfl) (by kernel_rfl) (by kernel_rfl)) ?_
  intro W base args ds gs before hval hW _ _
  exact contract H enc W base args ds gs before hval hW

theorem holds : Rows.FnExactNewlineInSaid :=
  OpenClaim.holds_of_wide 3 Try.f3 rfl rfl rfl rfl rfl rfl rfl ⟨rfl, rfl, rfl, rfl, rfl⟩ rfl rfl rfl rfl rfl (by kernel_rfl) Try.func3 (by kernel_rfl)
    (of_decide_eq_true (by kernel_rfl)) (by unfold Func.isWrapper; first | (rw [if_pos (by decide +kernel)]; kernel_rfl) | (rw [if_neg (by decide +kernel)]; exact ⟨rfl, rfl⟩))
    (fun os started H enc _ => lifted os started H enc)
end ExactNewlineIn
end Go.Proofs.Ytlekbmlacinkdab
