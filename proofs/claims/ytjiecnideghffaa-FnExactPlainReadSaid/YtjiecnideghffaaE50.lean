/- The exact law of PlainRead: for all arguments the function answers as its model, and writes into none. -/
import Derived.Test.YtjiecnideghffaaLawBase
import Derived.Test.YtjiecnideghffaaL8
import Derived.Test.YtjiecnideghffaaS4c
set_option maxRecDepth 10000
namespace Go.Proofs.Ytjiecnideghffaa
open Go.ChangeShapes Go.WideShapes Go.ChangeAt Go.RowKit
set_option linter.unusedSimpArgs false
set_option linter.unusedVariables false
namespace ExactPlainRead
set_option maxHeartbeats 16000000 in
theorem walk (A0 : Option Addr) (n0 c0 : Nat) (D0 : List Int) (p0 : Int) (z1 : Int) (w : World) (h0 : Ints w 0 w.heap.size A0 n0 D0) (hp0 : okInt p0) (hz1 : okInt z1) :
    Calls Try.prog 10 #[.agg #[.slice A0 n0 c0, .int .i64 (p0)], .int .i64 z1] w (BoolB true w) := by
  have HLa0 := Lib.hid h0.len
  have hm0 := h0.max
  have a01 := Lib.hid h0
  clear h0
  have EB := Lib.hid (Below.refl w.heap.size w)
  replace a01 := Lib.hid (a01.out.alloc (Nat.le_refl _) (.cells #[.slice A0 n0 c0, .int .i64 (p0)] 74))
  replace EB := Lib.hid (EB.out.alloc (Nat.le_refl _) (.cells #[.slice A0 n0 c0, .int .i64 (p0)] 74))
  have Ba0 := Lib.hid (Box.new w 74 [.slice A0 n0 c0, .int .i64 (p0)])
  go_enter Try.func10, Try.ntmps10
  go_wp2_with fail
  refine (szPlain_any hm0 (by omega) (by omega)).mono ?_
  rintro e w1 ⟨r, rfl, hr, hb⟩
  (try simp only [World.size_alloc, World.size_setCell, World.size_drew] at hb)
  have HB := Lib.hid hb
  clear hb
  have s1 := HB.out.size
  (try simp only [World.size_alloc, World.size_setCell, World.size_drew] at s1)
  replace a01 := Lib.hid (a01.out.below HB.out (by omega))
  replace Ba0 := Lib.hid (Ba0.out.below HB.out (by omega))
  replace EB := Lib.hid (below_step HB.out EB.out (by omega))
  clear HB
  have va0l := Ba0.out.lt
  have va00 := (Ba0.out.2 0 _ rfl).1
  have va01 := (Ba0.out.2 1 _ rfl).1
  go_wp2_with fail
  · go_ret
    exact ⟨rfl, EB.out⟩
  have hs0 : n0 ≤ 1048576 := by omega
  clear hr
  refine (toPlain_any a01.out (by omega) hs0 hp0).mono ?_
  clear va0l va00 va01
  rintro e w2 ⟨At0, nt0, ct0, rfl, hct0, hb, hd0, _⟩
  (try simp only [World.size_alloc, World.size_setCell, World.size_drew] at hb)
  have HB := Lib.hid hb
  clear hb
  have s2 := HB.out.size
  (try simp only [World.size_alloc, World.size_setCell, World.size_drew] at s2)
  replace a01 := Lib.hid (a01.out.below HB.out (by omega))
  replace Ba0 := Lib.hid (Ba0.out.below HB.out (by omega))
  replace EB := Lib.hid (below_step HB.out EB.out (by omega))
  clear HB
  have t01 := Lib.hid hd0
  clear hd0
  have ht0 : nt0 ≤ 1048576 := by have := t01.out.len; have := HLa0.out; omega
  go_wp2_with fail
  refine (SPlainRead_x t01.out (by omega) hct0 ht0 hz1).mono ?_
  rintro e w3 ⟨Au, nu, cu, Lu, lu, ku, rfl, ⟨_, _⟩, hb, hd0, hl, hb1, _⟩
  (try simp only [World.size_alloc, World.size_setCell, World.size_drew] at hb)
  have HB := Lib.hid hb
  clear hb
  have s3 := HB.out.size
  (try simp only [World.size_alloc, World.size_setCell, World.size_drew] at s3)
  replace a01 := Lib.hid (a01.out.below HB.out (by omega))
  replace Ba0 := Lib.hid (Ba0.out.below HB.out (by omega))
  replace t01 := Lib.hid (t01.out.below HB.out (by omega))
  replace EB := Lib.hid (below_step HB.out EB.out (by omega))
  clear HB
  have u1 := Lib.hid hd0
  clear hd0
  have u4 := Lib.hid hl
  clear hl
  have u4_u1 := Lib.hid hb1
  clear hb1
  obtain ⟨hx0, hx1⟩ := prOut_le D0 p0 z1
  have hl_u1 : nu ≤ 1048576 := by have := u1.out.len; omega
  have hl_u4 : lu ≤ 1048576 := by have := u4.out.len; omega
  clear hx0 hx1
  clear t01
  have va0l := Ba0.out.lt
  have va00 := (Ba0.out.2 0 _ rfl).1
  have va01 := (Ba0.out.2 1 _ rfl).1
  go_wp2_with fail
  clear va0l va00 va01
  replace a01 := Lib.hid (a01.out.alloc (by omega) (.cells #[.slice Au nu cu, .int .i64 ((prOut D0 p0 z1).1.p)] 70))
  replace Ba0 := Lib.hid (Ba0.out.alloc (.cells #[.slice Au nu cu, .int .i64 ((prOut D0 p0 z1).1.p)] 70))
  replace u1 := Lib.hid (u1.out.alloc (by omega) (.cells #[.slice Au nu cu, .int .i64 ((prOut D0 p0 z1).1.p)] 70))
  replace u4 := Lib.hid (u4.out.alloc (by omega) (.cells #[.slice Au nu cu, .int .i64 ((prOut D0 p0 z1).1.p)] 70))
  replace EB := Lib.hid (EB.out.alloc (by omega) (.cells #[.slice Au nu cu, .int .i64 ((prOut D0 p0 z1).1.p)] 70))
  have Bu := Lib.hid (Box.new w3 70 [.slice Au nu cu, .int .i64 ((prOut D0 p0 z1).1.p)])
  have s4 : w3.heap.size + 1 ≤ (w3.alloc (.cells #[.slice Au nu cu, .int .i64 ((prOut D0 p0 z1).1.p)] 70)).heap.size := by simp
  generalize w3.alloc (.cells #[.slice Au nu cu, .int .i64 ((prOut D0 p0 z1).1.p)] 70) = w4 at *
  refine (toPlain_any a01.out (by omega) hs0 hp0).mono ?_
  rintro e w5 ⟨Ax0, nx0, cx0, rfl, hcx0, hb, hd0, _⟩
  (try simp only [World.size_alloc, World.size_setCell, World.size_drew] at hb)
  have HB := Lib.hid hb
  clear hb
  have s5 := HB.out.size
  (try simp only [World.size_alloc, World.size_setCell, World.size_drew] at s5)
  replace a01 := Lib.hid (a01.out.below HB.out (by omega))
  replace Ba0 := Lib.hid (Ba0.out.below HB.out (by omega))
  replace u1 := Lib.hid (u1.out.below HB.out (by omega))
  replace u4 := Lib.hid (u4.out.below HB.out (by omega))
  replace Bu := Lib.hid (Bu.out.below HB.out (by omega))
  replace EB := Lib.hid (below_step HB.out EB.out (by omega))
  clear HB
  have x01 := Lib.hid hd0
  clear hd0
  have hx0 : nx0 ≤ 1048576 := by have := x01.out.len; have := HLa0.out; omega
  go_wp2_with fail
  replace a01 := Lib.hid (a01.out.alloc (by omega) (.cells #[.slice Ax0 nx0 cx0, .int .i64 (p0)] 70))
  replace Ba0 := Lib.hid (Ba0.out.alloc (.cells #[.slice Ax0 nx0 cx0, .int .i64 (p0)] 70))
  replace u1 := Lib.hid (u1.out.alloc (by omega) (.cells #[.slice Ax0 nx0 cx0, .int .i64 (p0)] 70))
  replace u4 := Lib.hid (u4.out.alloc (by omega) (.cells #[.slice Ax0 nx0 cx0, .int .i64 (p0)] 70))
  replace Bu := Lib.hid (Bu.out.alloc (.cells #[.slice Ax0 nx0 cx0, .int .i64 (p0)] 70))
  replace x01 := Lib.hid (x01.out.alloc (by omega) (.cells #[.slice Ax0 nx0 cx0, .int .i64 (p0)] 70))
  replace EB := Lib.hid (EB.out.alloc (by omega) (.cells #[.slice Ax0 nx0 cx0, .int .i64 (p0)] 70))
  have Bx0 := Lib.hid (Box.new w5 70 [.slice Ax0 nx0 cx0, .int .i64 (p0)])
  have s6 : w5.heap.size + 1 ≤ (w5.alloc (.cells #[.slice Ax0 nx0 cx0, .int .i64 (p0)] 70)).heap.size := by simp
  generalize w5.alloc (.cells #[.slice Ax0 nx0 cx0, .int .i64 (p0)] 70) = w6 at *
  refine (PlainRead_x x01.out (by omega) hcx0 hx0 hz1).mono ?_
  rintro e w7 ⟨Ag, ng, cg, Lg, lg, kg, rfl, ⟨_, _⟩, hb, hd0, hl, hb1, _⟩
  (try simp only [World.size_alloc, World.size_setCell, World.size_drew] at hb)
  have HB := Lib.hid hb
  clear hb
  have s7 := HB.out.size
  (try simp only [World.size_alloc, World.size_setCell, World.size_drew] at s7)
  replace a01 := Lib.hid (a01.out.below HB.out (by omega))
  replace Ba0 := Lib.hid (Ba0.out.below HB.out (by omega))
  replace u1 := Lib.hid (u1.out.below HB.out (by omega))
  replace u4 := Lib.hid (u4.out.below HB.out (by omega))
  replace Bu := Lib.hid (Bu.out.below HB.out (by omega))
  replace x01 := Lib.hid (x01.out.below HB.out (by omega))
  replace Bx0 := Lib.hid (Bx0.out.below HB.out (by omega))
  replace EB := Lib.hid (below_step HB.out EB.out (by omega))
  clear HB
  have g1 := Lib.hid hd0
  clear hd0
  have g4 := Lib.hid hl
  clear hl
  have g4_g1 := Lib.hid hb1
  clear hb1
  obtain ⟨hx0, hx1⟩ := prOut_le D0 p0 z1
  have hl_g1 : ng ≤ 1048576 := by have := g1.out.len; omega
  have hl_g4 : lg ≤ 1048576 := by have := g4.out.len; omega
  clear hx0 hx1
  have vul := Bu.out.lt
  have vu0 := (Bu.out.2 0 _ rfl).1
  have vu1 := (Bu.out.2 1 _ rfl).1
  go_wp2_with fail
  clear vul vu0 vu1
  replace a01 := Lib.hid (a01.out.alloc (by omega) (.cells #[.slice Ag ng cg, .int .i64 ((prOut D0 p0 z1).1.p)] 70))
  replace Ba0 := Lib.hid (Ba0.out.alloc (.cells #[.slice Ag ng cg, .int .i64 ((prOut D0 p0 z1).1.p)] 70))
  replace u1 := Lib.hid (u1.out.alloc (by omega) (.cells #[.slice Ag ng cg, .int .i64 ((prOut D0 p0 z1).1.p)] 70))
  replace u4 := Lib.hid (u4.out.alloc (by omega) (.cells #[.slice Ag ng cg, .int .i64 ((prOut D0 p0 z1).1.p)] 70))
  replace Bu := Lib.hid (Bu.out.alloc (.cells #[.slice Ag ng cg, .int .i64 ((prOut D0 p0 z1).1.p)] 70))
  replace x01 := Lib.hid (x01.out.alloc (by omega) (.cells #[.slice Ag ng cg, .int .i64 ((prOut D0 p0 z1).1.p)] 70))
  replace Bx0 := Lib.hid (Bx0.out.alloc (.cells #[.slice Ag ng cg, .int .i64 ((prOut D0 p0 z1).1.p)] 70))
  replace g1 := Lib.hid (g1.out.alloc (by omega) (.cells #[.slice Ag ng cg, .int .i64 ((prOut D0 p0 z1).1.p)] 70))
  replace g4 := Lib.hid (g4.out.alloc (by omega) (.cells #[.slice Ag ng cg, .int .i64 ((prOut D0 p0 z1).1.p)] 70))
  replace EB := Lib.hid (EB.out.alloc (by omega) (.cells #[.slice Ag ng cg, .int .i64 ((prOut D0 p0 z1).1.p)] 70))
  have Bg := Lib.hid (Box.new w7 70 [.slice Ag ng cg, .int .i64 ((prOut D0 p0 z1).1.p)])
  have s8 : w7.heap.size + 1 ≤ (w7.alloc (.cells #[.slice Ag ng cg, .int .i64 ((prOut D0 p0 z1).1.p)] 70)).heap.size := by simp
  generalize w7.alloc (.cells #[.slice Ag ng cg, .int .i64 ((prOut D0 p0 z1).1.p)] 70) = w8 at *
  refine (eqPlain_same g1.out u1.out (by omega) (by omega)).mono ?_
  rintro e w9 ⟨rfl, hb⟩
  (try simp only [World.size_alloc, World.size_setCell, World.size_drew] at hb)
  have HB := Lib.hid hb
  clear hb
  have s9 := HB.out.size
  (try simp only [World.size_alloc, World.size_setCell, World.size_drew] at s9)
  replace a01 := Lib.hid (a01.out.below HB.out (by omega))
  replace Ba0 := Lib.hid (Ba0.out.below HB.out (by omega))
  replace u1 := Lib.hid (u1.out.below HB.out (by omega))
  replace u4 := Lib.hid (u4.out.below HB.out (by omega))
  replace Bu := Lib.hid (Bu.out.below HB.out (by omega))
  replace x01 := Lib.hid (x01.out.below HB.out (by omega))
  replace Bx0 := Lib.hid (Bx0.out.below HB.out (by omega))
  replace g1 := Lib.hid (g1.out.below HB.out (by omega))
  replace g4 := Lib.hid (g4.out.below HB.out (by omega))
  replace Bg := Lib.hid (Bg.out.below HB.out (by omega))
  replace EB := Lib.hid (below_step HB.out EB.out (by omega))
  clear HB
  go_wp2_with fail
  refine (eqIntS_same g4.out u4.out).mono ?_
  rintro e w10 ⟨rfl, hb⟩
  (try simp only [World.size_alloc, World.size_setCell, World.size_drew] at hb)
  have HB := Lib.hid hb
  clear hb
  have s10 := HB.out.size
  (try simp only [World.size_alloc, World.size_setCell, World.size_drew] at s10)
  replace a01 := Lib.hid (a01.out.below HB.out (by omega))
  replace Ba0 := Lib.hid (Ba0.out.below HB.out (by omega))
  replace u1 := Lib.hid (u1.out.below HB.out (by omega))
  replace u4 := Lib.hid (u4.out.below HB.out (by omega))
  replace Bu := Lib.hid (Bu.out.below HB.out (by omega))
  replace x01 := Lib.hid (x01.out.below HB.out (by omega))
  replace Bx0 := Lib.hid (Bx0.out.below HB.out (by omega))
  replace g1 := Lib.hid (g1.out.below HB.out (by omega))
  replace g4 := Lib.hid (g4.out.below HB.out (by omega))
  replace Bg := Lib.hid (Bg.out.below HB.out (by omega))
  replace EB := Lib.hid (below_step HB.out EB.out (by omega))
  clear HB
  have va0l := Ba0.out.lt
  have va00 := (Ba0.out.2 0 _ rfl).1
  have va01 := (Ba0.out.2 1 _ rfl).1
  have vx0l := Bx0.out.lt
  have vx00 := (Bx0.out.2 0 _ rfl).1
  have vx01 := (Bx0.out.2 1 _ rfl).1
  go_wp2_with fail
  clear va0l va00 va01 vx0l vx00 vx01
  have EC := Lib.hid EB.out
  have xl := Ba0.out.lt
  have x0 := (Ba0.out.2 0 _ rfl).1
  have x1 := (Ba0.out.2 1 _ rfl).1
  have yl := Bx0.out.lt
  have y0 := (Bx0.out.2 0 _ rfl).1
  have y1 := (Bx0.out.2 1 _ rfl).1
  go_region_held3 (fun w' => (w'.cell? ⟨w.heap.size, 0, none⟩ = some (.slice A0 n0 c0) ∧ w'.cell? ⟨w.heap.size, 1, none⟩ = some (.int .i64 (p0))) ∧ (w'.cell? ⟨w5.heap.size, 0, none⟩ = some (.slice Ax0 nx0 cx0) ∧ w'.cell? ⟨w5.heap.size, 1, none⟩ = some (.int .i64 (p0)))) (go_keep)
    (first | (go_at_call 56; refine (toPlain_any a01.out.drew (by first | omega | (simp; omega) | (simp; done)) hs0 hp0).mono ?_; rintro e w11 ⟨Ak, nk, ck, rfl, _, hb, hd0, _⟩; (try simp only [World.size_alloc, World.size_setCell, World.size_drew] at hb hd0); have HB := Lib.hid hb; have HK1 := Lib.hid hd0; have sa := hb.size; (try simp only [World.size_alloc, World.size_setCell, World.size_drew] at sa); have BA := Lib.hid (Ba0.out.drew.below hb (by omega)); have BX := Lib.hid (Bx0.out.drew.below hb (by omega)); clear hb hd0; have x0 := (BA.out.2 0 _ rfl).1; have x1 := (BA.out.2 1 _ rfl).1; have y0 := (BX.out.2 0 _ rfl).1; have y1 := (BX.out.2 1 _ rfl).1) | (go_at_call 51; refine (eqPlain_same (x01.out.drew.below HB.out (by omega)) HK1.out (by omega) (by omega)).mono ?_; rintro e w12 ⟨rfl, hb⟩; have HC := Lib.hid hb; have sb := hb.size; have CA := Lib.hid (BA.out.below hb (by omega)); have CX := Lib.hid (BX.out.below hb (by omega)); clear hb; have x0 := (CA.out.2 0 _ rfl).1; have x1 := (CA.out.2 1 _ rfl).1; have y0 := (CX.out.2 0 _ rfl).1; have y1 := (CX.out.2 1 _ rfl).1))
  have HD : Hid (Below w10.heap.size w10 w12) := below_step HC.out (below_step HB.out (Below.refl _ _).drew (by simp)) (by omega)
  have s12 := HD.out.size
  clear xl x0 x1 yl y0 y1
  replace a01 := Lib.hid (a01.out.below HD.out (by omega))
  replace Ba0 := Lib.hid (Ba0.out.below HD.out (by omega))
  replace u1 := Lib.hid (u1.out.below HD.out (by omega))
  replace u4 := Lib.hid (u4.out.below HD.out (by omega))
  replace Bu := Lib.hid (Bu.out.below HD.out (by omega))
  replace x01 := Lib.hid (x01.out.below HD.out (by omega))
  replace Bx0 := Lib.hid (Bx0.out.below HD.out (by omega))
  replace g1 := Lib.hid (g1.out.below HD.out (by omega))
  replace g4 := Lib.hid (g4.out.below HD.out (by omega))
  replace Bg := Lib.hid (Bg.out.below HD.out (by omega))
  replace EB := Lib.hid (below_step HD.out EB.out (by omega))
  clear HB HC HD HK1 BA BX CA CX
  have vx0l := Bx0.out.lt
  have vx00 := (Bx0.out.2 0 _ rfl).1
  have vx01 := (Bx0.out.2 1 _ rfl).1
  go_wp2_with fail
  refine (markPlain_any x01.out  (by omega) (by omega) (by omega) hx0).mono ?_
  clear vx0l vx00 vx01
  rintro e w13 ⟨rfl, hm, hi0⟩
  have HM := Lib.hid hm
  have s13 := HM.out.size
  clear hm
  replace EB := Lib.hid (below_markP EB.out HM.out x01.out (by omega) (by omega))
  replace a01 := Lib.hid (a01.out.markP HM.out (by omega) (Apart.of_le a01.out x01.out (by omega)).symm)
  replace Ba0 := Lib.hid (Ba0.out.markP HM.out x01.out (by omega))
  replace u1 := Lib.hid (u1.out.markP HM.out (by omega) (Apart.of_le u1.out x01.out (by omega)).symm)
  replace u4 := Lib.hid (u4.out.markP HM.out (by omega) (Apart.of_le u4.out x01.out (by omega)).symm)
  replace Bu := Lib.hid (Bu.out.markP HM.out x01.out (by omega))
  replace Bx0 := Lib.hid (Bx0.out.markP HM.out x01.out (by omega))
  replace g1 := Lib.hid (g1.out.markP HM.out (by omega) (Apart.of_le x01.out g1.out (by omega)))
  replace g4 := Lib.hid (g4.out.markP HM.out (by omega) (Apart.of_le x01.out g4.out (by omega)))
  replace Bg := Lib.hid (Bg.out.markP HM.out x01.out (by omega))
  replace x01 := Lib.hid hi0
  clear HM hi0
  clear x01 Bx0
  have vgl := Bg.out.lt
  have vg0 := (Bg.out.2 0 _ rfl).1
  have vg1 := (Bg.out.2 1 _ rfl).1
  have vul := Bu.out.lt
  have vu0 := (Bu.out.2 0 _ rfl).1
  have vu1 := (Bu.out.2 1 _ rfl).1
  go_wp2_with fail
  refine (eqPlain_same g1.out u1.out (by omega) (by omega)).mono ?_
  clear vgl vg0 vg1 vul vu0 vu1
  rintro e w14 ⟨rfl, hb⟩
  (try simp only [World.size_alloc, World.size_setCell, World.size_drew] at hb)
  have HB := Lib.hid hb
  clear hb
  have s14 := HB.out.size
  (try simp only [World.size_alloc, World.size_setCell, World.size_drew] at s14)
  replace a01 := Lib.hid (a01.out.below HB.out (by omega))
  replace Ba0 := Lib.hid (Ba0.out.below HB.out (by omega))
  replace u1 := Lib.hid (u1.out.below HB.out (by omega))
  replace u4 := Lib.hid (u4.out.below HB.out (by omega))
  replace Bu := Lib.hid (Bu.out.below HB.out (by omega))
  replace g1 := Lib.hid (g1.out.below HB.out (by omega))
  replace g4 := Lib.hid (g4.out.below HB.out (by omega))
  replace Bg := Lib.hid (Bg.out.below HB.out (by omega))
  replace EB := Lib.hid (below_step HB.out EB.out (by omega))
  clear HB
  go_wp2_with fail
  refine (eqIntS_same g4.out u4.out).mono ?_
  rintro e w15 ⟨rfl, hb⟩
  (try simp only [World.size_alloc, World.size_setCell, World.size_drew] at hb)
  have HB := Lib.hid hb
  clear hb
  have s15 := HB.out.size
  (try simp only [World.size_alloc, World.size_setCell, World.size_drew] at s15)
  replace a01 := Lib.hid (a01.out.below HB.out (by omega))
  replace Ba0 := Lib.hid (Ba0.out.below HB.out (by omega))
  replace u1 := Lib.hid (u1.out.below HB.out (by omega))
  replace u4 := Lib.hid (u4.out.below HB.out (by omega))
  replace Bu := Lib.hid (Bu.out.below HB.out (by omega))
  replace g1 := Lib.hid (g1.out.below HB.out (by omega))
  replace g4 := Lib.hid (g4.out.below HB.out (by omega))
  replace Bg := Lib.hid (Bg.out.below HB.out (by omega))
  replace EB := Lib.hid (below_step HB.out EB.out (by omega))
  clear HB
  have vgl := Bg.out.lt
  have vg0 := (Bg.out.2 0 _ rfl).1
  have vg1 := (Bg.out.2 1 _ rfl).1
  go_wp2_with fail
  refine (markPlain_any g1.out  (by omega) (by omega) (by omega) hl_g1).mono ?_
  clear vgl vg0 vg1
  rintro e w16 ⟨rfl, hm, hi0⟩
  have HM := Lib.hid hm
  have s16 := HM.out.size
  clear hm
  replace EB := Lib.hid (below_markP EB.out HM.out g1.out (by omega) (by omega))
  replace a01 := Lib.hid (a01.out.markP HM.out (by omega) (Apart.of_le a01.out g1.out (by omega)).symm)
  replace Ba0 := Lib.hid (Ba0.out.markP HM.out g1.out (by omega))
  replace u1 := Lib.hid (u1.out.markP HM.out (by omega) (Apart.of_le u1.out g1.out (by omega)).symm)
  replace u4 := Lib.hid (u4.out.markP HM.out (by omega) (Apart.of_le u4.out g1.out (by omega)).symm)
  replace Bu := Lib.hid (Bu.out.markP HM.out g1.out (by omega))
  replace g4 := Lib.hid (g4.out.markP HM.out (by omega) g4_g1.out.symm)
  replace Bg := Lib.hid (Bg.out.markP HM.out g1.out (by omega))
  replace g1 := Lib.hid hi0
  clear HM hi0
  go_wp2_with fail
  refine (markIntS_any g4.out (by omega) (by omega) hl_g4).mono ?_
  rintro e w17 ⟨rfl, hm, hi0⟩
  have HM := Lib.hid hm
  have s17 := HM.out.size
  clear hm
  replace EB := Lib.hid (below_mark EB.out HM.out g4.out (by omega))
  replace a01 := Lib.hid (a01.out.mark HM.out (Apart.of_le a01.out g4.out (by omega)).symm)
  replace Ba0 := Lib.hid (Ba0.out.mark HM.out g4.out (by omega))
  replace u1 := Lib.hid (u1.out.mark HM.out (Apart.of_le u1.out g4.out (by omega)).symm)
  replace u4 := Lib.hid (u4.out.mark HM.out (Apart.of_le u4.out g4.out (by omega)).symm)
  replace Bu := Lib.hid (Bu.out.mark HM.out g4.out (by omega))
  replace g1 := Lib.hid (g1.out.mark HM.out g4_g1.out)
  replace Bg := Lib.hid (Bg.out.mark HM.out g4.out (by omega))
  replace g4 := Lib.hid hi0
  clear HM hi0
  have vgl := Bg.out.lt
  have vg0 := (Bg.out.2 0 _ rfl).1
  have vg1 := (Bg.out.2 1 _ rfl).1
  go_wp2_with fail
  refine (heldPlain_any g1.out (by omega) (by omega) (by omega) hl_g1).mono ?_
  clear vgl vg0 vg1
  rintro e w18 ⟨rfl, hb⟩
  (try simp only [World.size_alloc, World.size_setCell, World.size_drew] at hb)
  have HB := Lib.hid hb
  clear hb
  have s18 := HB.out.size
  (try simp only [World.size_alloc, World.size_setCell, World.size_drew] at s18)
  replace a01 := Lib.hid (a01.out.below HB.out (by omega))
  replace Ba0 := Lib.hid (Ba0.out.below HB.out (by omega))
  replace u1 := Lib.hid (u1.out.below HB.out (by omega))
  replace u4 := Lib.hid (u4.out.below HB.out (by omega))
  replace Bu := Lib.hid (Bu.out.below HB.out (by omega))
  replace g1 := Lib.hid (g1.out.below HB.out (by omega))
  replace g4 := Lib.hid (g4.out.below HB.out (by omega))
  replace Bg := Lib.hid (Bg.out.below HB.out (by omega))
  replace EB := Lib.hid (below_step HB.out EB.out (by omega))
  clear HB
  go_wp2_with fail
  refine (heldIntS_b g4.out (by omega) (by omega) hl_g4).mono ?_
  rintro e w19 ⟨rfl, hb⟩
  (try simp only [World.size_alloc, World.size_setCell, World.size_drew] at hb)
  have HB := Lib.hid hb
  clear hb
  have s19 := HB.out.size
  (try simp only [World.size_alloc, World.size_setCell, World.size_drew] at s19)
  replace a01 := Lib.hid (a01.out.below HB.out (by omega))
  replace Ba0 := Lib.hid (Ba0.out.below HB.out (by omega))
  replace u1 := Lib.hid (u1.out.below HB.out (by omega))
  replace u4 := Lib.hid (u4.out.below HB.out (by omega))
  replace Bu := Lib.hid (Bu.out.below HB.out (by omega))
  replace g1 := Lib.hid (g1.out.below HB.out (by omega))
  replace g4 := Lib.hid (g4.out.below HB.out (by omega))
  replace Bg := Lib.hid (Bg.out.below HB.out (by omega))
  replace EB := Lib.hid (below_step HB.out EB.out (by omega))
  clear HB
  have va0l := Ba0.out.lt
  have va00 := (Ba0.out.2 0 _ rfl).1
  have va01 := (Ba0.out.2 1 _ rfl).1
  go_wp2_with fail
  refine (toPlain_any a01.out (by omega) hs0 hp0).mono ?_
  clear va0l va00 va01
  rintro e w20 ⟨Ar0, nr0, cr0, rfl, hcr0, hb, hd0, _⟩
  (try simp only [World.size_alloc, World.size_setCell, World.size_drew] at hb)
  have HB := Lib.hid hb
  clear hb
  have s20 := HB.out.size
  (try simp only [World.size_alloc, World.size_setCell, World.size_drew] at s20)
  replace a01 := Lib.hid (a01.out.below HB.out (by omega))
  replace Ba0 := Lib.hid (Ba0.out.below HB.out (by omega))
  replace u1 := Lib.hid (u1.out.below HB.out (by omega))
  replace u4 := Lib.hid (u4.out.below HB.out (by omega))
  replace Bu := Lib.hid (Bu.out.below HB.out (by omega))
  replace g1 := Lib.hid (g1.out.below HB.out (by omega))
  replace g4 := Lib.hid (g4.out.below HB.out (by omega))
  replace Bg := Lib.hid (Bg.out.below HB.out (by omega))
  replace EB := Lib.hid (below_step HB.out EB.out (by omega))
  clear HB
  have r01 := Lib.hid hd0
  clear hd0
  have hr0 : nr0 ≤ 1048576 := by have := r01.out.len; have := HLa0.out; omega
  go_wp2_with fail
  refine (PlainRead_x r01.out (by omega) hcr0 hr0 hz1).mono ?_
  rintro e w21 ⟨Ah, nh, ch, Lh, lh, kh, rfl, ⟨_, _⟩, hb, hd0, hl, hb1, _⟩
  (try simp only [World.size_alloc, World.size_setCell, World.size_drew] at hb)
  have HB := Lib.hid hb
  clear hb
  have s21 := HB.out.size
  (try simp only [World.size_alloc, World.size_setCell, World.size_drew] at s21)
  replace a01 := Lib.hid (a01.out.below HB.out (by omega))
  replace Ba0 := Lib.hid (Ba0.out.below HB.out (by omega))
  replace u1 := Lib.hid (u1.out.below HB.out (by omega))
  replace u4 := Lib.hid (u4.out.below HB.out (by omega))
  replace Bu := Lib.hid (Bu.out.below HB.out (by omega))
  replace g1 := Lib.hid (g1.out.below HB.out (by omega))
  replace g4 := Lib.hid (g4.out.below HB.out (by omega))
  replace Bg := Lib.hid (Bg.out.below HB.out (by omega))
  replace r01 := Lib.hid (r01.out.below HB.out (by omega))
  replace EB := Lib.hid (below_step HB.out EB.out (by omega))
  clear HB
  have h1 := Lib.hid hd0
  clear hd0
  have h4 := Lib.hid hl
  clear hl
  have h4_h1 := Lib.hid hb1
  clear hb1
  obtain ⟨hx0, hx1⟩ := prOut_le D0 p0 z1
  have hl_h1 : nh ≤ 1048576 := by have := h1.out.len; omega
  have hl_h4 : lh ≤ 1048576 := by have := h4.out.len; omega
  clear hx0 hx1
  clear r01
  have vul := Bu.out.lt
  have vu0 := (Bu.out.2 0 _ rfl).1
  have vu1 := (Bu.out.2 1 _ rfl).1
  go_wp2_with fail
  clear vul vu0 vu1
  replace a01 := Lib.hid (a01.out.alloc (by omega) (.cells #[.slice Ah nh ch, .int .i64 ((prOut D0 p0 z1).1.p)] 70))
  replace Ba0 := Lib.hid (Ba0.out.alloc (.cells #[.slice Ah nh ch, .int .i64 ((prOut D0 p0 z1).1.p)] 70))
  replace u1 := Lib.hid (u1.out.alloc (by omega) (.cells #[.slice Ah nh ch, .int .i64 ((prOut D0 p0 z1).1.p)] 70))
  replace u4 := Lib.hid (u4.out.alloc (by omega) (.cells #[.slice Ah nh ch, .int .i64 ((prOut D0 p0 z1).1.p)] 70))
  replace Bu := Lib.hid (Bu.out.alloc (.cells #[.slice Ah nh ch, .int .i64 ((prOut D0 p0 z1).1.p)] 70))
  replace g1 := Lib.hid (g1.out.alloc (by omega) (.cells #[.slice Ah nh ch, .int .i64 ((prOut D0 p0 z1).1.p)] 70))
  replace g4 := Lib.hid (g4.out.alloc (by omega) (.cells #[.slice Ah nh ch, .int .i64 ((prOut D0 p0 z1).1.p)] 70))
  replace Bg := Lib.hid (Bg.out.alloc (.cells #[.slice Ah nh ch, .int .i64 ((prOut D0 p0 z1).1.p)] 70))
  replace h1 := Lib.hid (h1.out.alloc (by omega) (.cells #[.slice Ah nh ch, .int .i64 ((prOut D0 p0 z1).1.p)] 70))
  replace h4 := Lib.hid (h4.out.alloc (by omega) (.cells #[.slice Ah nh ch, .int .i64 ((prOut D0 p0 z1).1.p)] 70))
  replace EB := Lib.hid (EB.out.alloc (by omega) (.cells #[.slice Ah nh ch, .int .i64 ((prOut D0 p0 z1).1.p)] 70))
  have Bh := Lib.hid (Box.new w21 70 [.slice Ah nh ch, .int .i64 ((prOut D0 p0 z1).1.p)])
  have s22 : w21.heap.size + 1 ≤ (w21.alloc (.cells #[.slice Ah nh ch, .int .i64 ((prOut D0 p0 z1).1.p)] 70)).heap.size := by simp
  generalize w21.alloc (.cells #[.slice Ah nh ch, .int .i64 ((prOut D0 p0 z1).1.p)] 70) = w22 at *
  refine (eqPlain_same h1.out u1.out (by omega) (by omega)).mono ?_
  rintro e w23 ⟨rfl, hb⟩
  (try simp only [World.size_alloc, World.size_setCell, World.size_drew] at hb)
  have HB := Lib.hid hb
  clear hb
  have s23 := HB.out.size
  (try simp only [World.size_alloc, World.size_setCell, World.size_drew] at s23)
  replace a01 := Lib.hid (a01.out.below HB.out (by omega))
  replace Ba0 := Lib.hid (Ba0.out.below HB.out (by omega))
  replace u1 := Lib.hid (u1.out.below HB.out (by omega))
  replace u4 := Lib.hid (u4.out.below HB.out (by omega))
  replace Bu := Lib.hid (Bu.out.below HB.out (by omega))
  replace g1 := Lib.hid (g1.out.below HB.out (by omega))
  replace g4 := Lib.hid (g4.out.below HB.out (by omega))
  replace Bg := Lib.hid (Bg.out.below HB.out (by omega))
  replace h1 := Lib.hid (h1.out.below HB.out (by omega))
  replace h4 := Lib.hid (h4.out.below HB.out (by omega))
  replace Bh := Lib.hid (Bh.out.below HB.out (by omega))
  replace EB := Lib.hid (below_step HB.out EB.out (by omega))
  clear HB
  go_wp2_with fail
  refine (eqIntS_same h4.out u4.out).mono ?_
  rintro e w24 ⟨rfl, hb⟩
  (try simp only [World.size_alloc, World.size_setCell, World.size_drew] at hb)
  have HB := Lib.hid hb
  clear hb
  have s24 := HB.out.size
  (try simp only [World.size_alloc, World.size_setCell, World.size_drew] at s24)
  replace a01 := Lib.hid (a01.out.below HB.out (by omega))
  replace Ba0 := Lib.hid (Ba0.out.below HB.out (by omega))
  replace u1 := Lib.hid (u1.out.below HB.out (by omega))
  replace u4 := Lib.hid (u4.out.below HB.out (by omega))
  replace Bu := Lib.hid (Bu.out.below HB.out (by omega))
  replace g1 := Lib.hid (g1.out.below HB.out (by omega))
  replace g4 := Lib.hid (g4.out.below HB.out (by omega))
  replace Bg := Lib.hid (Bg.out.below HB.out (by omega))
  replace h1 := Lib.hid (h1.out.below HB.out (by omega))
  replace h4 := Lib.hid (h4.out.below HB.out (by omega))
  replace Bh := Lib.hid (Bh.out.below HB.out (by omega))
  replace EB := Lib.hid (below_step HB.out EB.out (by omega))
  clear HB
  have vgl := Bg.out.lt
  have vg0 := (Bg.out.2 0 _ rfl).1
  have vg1 := (Bg.out.2 1 _ rfl).1
  go_wp2_with fail
  refine (heldPlain_any g1.out (by omega) (by omega) (by omega) hl_g1).mono ?_
  clear vgl vg0 vg1
  rintro e w25 ⟨rfl, hb⟩
  (try simp only [World.size_alloc, World.size_setCell, World.size_drew] at hb)
  have HB := Lib.hid hb
  clear hb
  have s25 := HB.out.size
  (try simp only [World.size_alloc, World.size_setCell, World.size_drew] at s25)
  replace a01 := Lib.hid (a01.out.below HB.out (by omega))
  replace Ba0 := Lib.hid (Ba0.out.below HB.out (by omega))
  replace u1 := Lib.hid (u1.out.below HB.out (by omega))
  replace u4 := Lib.hid (u4.out.below HB.out (by omega))
  replace Bu := Lib.hid (Bu.out.below HB.out (by omega))
  replace g1 := Lib.hid (g1.out.below HB.out (by omega))
  replace g4 := Lib.hid (g4.out.below HB.out (by omega))
  replace Bg := Lib.hid (Bg.out.below HB.out (by omega))
  replace h1 := Lib.hid (h1.out.below HB.out (by omega))
  replace h4 := Lib.hid (h4.out.below HB.out (by omega))
  replace Bh := Lib.hid (Bh.out.below HB.out (by omega))
  replace EB := Lib.hid (below_step HB.out EB.out (by omega))
  clear HB
  go_wp2_with fail
  refine (heldIntS_b g4.out (by omega) (by omega) hl_g4).mono ?_
  rintro e w26 ⟨rfl, hb⟩
  (try simp only [World.size_alloc, World.size_setCell, World.size_drew] at hb)
  have HB := Lib.hid hb
  clear hb
  have s26 := HB.out.size
  (try simp only [World.size_alloc, World.size_setCell, World.size_drew] at s26)
  replace a01 := Lib.hid (a01.out.below HB.out (by omega))
  replace Ba0 := Lib.hid (Ba0.out.below HB.out (by omega))
  replace u1 := Lib.hid (u1.out.below HB.out (by omega))
  replace u4 := Lib.hid (u4.out.below HB.out (by omega))
  replace Bu := Lib.hid (Bu.out.below HB.out (by omega))
  replace g1 := Lib.hid (g1.out.below HB.out (by omega))
  replace g4 := Lib.hid (g4.out.below HB.out (by omega))
  replace Bg := Lib.hid (Bg.out.below HB.out (by omega))
  replace h1 := Lib.hid (h1.out.below HB.out (by omega))
  replace h4 := Lib.hid (h4.out.below HB.out (by omega))
  replace Bh := Lib.hid (Bh.out.below HB.out (by omega))
  replace EB := Lib.hid (below_step HB.out EB.out (by omega))
  clear HB
  go_wp2
  go_ret
  exact ⟨rfl, EB.out⟩

theorem contract (H : Type) (enc : TypeId × Value → H) (W : World) (base : Nat) (args : Array Value) (ds gs : List (DataW H)) (before : List MemPlace)
    (hval : ∀ (j : Nat) t v, Try.f10.params[j]? = some t → args[j]? = some v → Value.okWide Try.prog W .any base t v)
    (hW : DataW.Whole enc Try.prog Try.f10.params.toList Rows.fnExactPlainReadSpec.vars false W args.toList ds gs before) :
    Calls Try.prog 10 args W fun e W' => ∃ v, e = .returned v ∧ Rows.fnExactPlainReadSpec.post enc Try.prog Try.f10 false true false false W args v W' := by
  have hW' := hW
  have hlt : ∀ p ∈ before, p.block < W.heap.size := fun p hp => hW.lt p hp
  obtain ⟨p, q, hA0, hV, rfl, hfz, hnd⟩ := hW
  have hA : DataW.TrodAll enc Try.prog W 0 (fun _ => true) true Try.f10.params.toList args.toList ds p := hA0
  rw [Try.params10] at hA hval
  obtain ⟨v0, vs0, d0, ds0, p0, q0, hargs, rfl, rfl, h0, r0⟩ := trodAll_cons hA
  obtain ⟨v1, vs1, d1, ds1, p1, q1, rfl, rfl, rfl, h1, r1⟩ := trodAll_cons r0
  obtain ⟨rfl, rfl, rfl⟩ := trodAll_nil r1
  obtain rfl : args = #[v0, v1] := by cases args; simp_all
  obtain ⟨rfl, rfl⟩ := trodVars_none hV
  obtain ⟨A, n, c, x, D, rfl, hD0, hx0⟩ := arg_plain (hval 0 _ v0 rfl rfl) h0 (fun p hp => hlt p (by simp [hp])) (fun b o hp => hfz b o (by simp [hp]))
  obtain ⟨y, rfl, hz1⟩ := arg_intv (hval 1 _ v1 rfl rfl) h1
  refine (walk _ _ _ _ _ _ W hD0 hx0 hz1).mono fun e W' hh => ?_
  obtain ⟨rfl, hb⟩ := hh
  exact ⟨_, rfl, law_post laidOut (tys_of (by rw [Try.params10]; kernel_rfl)) hW' rfl rfl rfl Try.underlying4 hb⟩

set_option maxRecDepth 100000 in
theorem lifted (os : Os) (started : os.Started) (H : Type) (enc : TypeId × Value → H) :
    ReturnsInHanded {} Try.checked os 10 .any (Rows.fnExactPlainReadSpec.pre6 enc Try.prog Try.f10 Rows.fnExactPlainReadRow.domain false) (Rows.fnExactPlainReadSpec.post enc Try.prog Try.f10 false true false false) := by
  refine returnsInHanded_of_change (C := Try.checked) own started (by kernel_rfl) Try.func10
    (ChangeSpec.witness6 (C := Try.checked) false ⟨#[], #[.agg #[.slice none 0 0, .int .i64 0], .int .i64 0], []⟩ 8 (by kernel_rfl) (by kernel_rfl) (by kernel_rfl) (by kernel_rfl)) ?_
  intro W base args ds gs before hval hW _ _
  exact contract H enc W base args ds gs before hval hW

theorem holds : Rows.FnExactPlainReadSaid :=
  OpenClaim.holds_of_wide 10 Try.f10 rfl rfl rfl rfl rfl rfl rfl ⟨rfl, rfl, rfl, rfl, rfl⟩ rfl rfl rfl rfl rfl (by kernel_rfl) Try.func10 (by kernel_rfl)
    (of_decide_eq_true (by kernel_rfl)) (by unfold Func.isWrapper; first | (rw [if_pos (by decide +kernel)]; kernel_rfl) | (rw [if_neg (by decide +kernel)]; exact ⟨rfl, rfl⟩))
    (fun os started H enc _ => lifted os started H enc)
end ExactPlainRead
end Go.Proofs.Ytjiecnideghffaa
