/- The exact law of ValidBoth: for all arguments the function answers as its model, and writes into none. -/
import Derived.Test.YtjiecnideghffaaLawBase
import Derived.Test.YtjiecnideghffaaL9
import Derived.Test.YtjiecnideghffaaS4b
set_option maxRecDepth 10000
namespace Go.Proofs.Ytjiecnideghffaa
open Go.ChangeShapes Go.WideShapes Go.ChangeAt Go.RowKit
set_option linter.unusedSimpArgs false
set_option linter.unusedVariables false
namespace ExactValidBoth
set_option maxHeartbeats 16000000 in
theorem walk (A0 A0' E0 F0 : Option Addr) (n0 c0 n0' c0' m0 d0 l0 k0 : Nat) (D0 S0 R0 Q0 : List Int) (p0 q0 yy0 : Int) (w : World) (h0 : Ints w 0 w.heap.size A0 n0 D0) (h0' : Ints w 0 w.heap.size A0' n0' S0) (g0 : Ints w 0 w.heap.size E0 m0 R0) (j0 : Ints w 0 w.heap.size F0 l0 Q0) (hp0 : okInt p0) (hq0 : okInt q0) (hy0 : okInt yy0) :
    Calls Try.prog 6 #[.agg #[.slice A0 n0 c0, .int .i64 (p0), .slice A0' n0' c0', .int .i64 (q0), .slice E0 m0 d0, .slice F0 l0 k0, .int .i64 (yy0)]] w (BoolB true w) := by
  have HLa0 := Lib.hid h0.len
  have hm0 := h0.max
  have HLb0 := Lib.hid h0'.len
  have hm0' := h0'.max
  have HLc0 := Lib.hid g0.len
  have hm0'' := g0.max
  have HLd0 := Lib.hid j0.len
  have hm0''' := j0.max
  have a01 := Lib.hid h0
  have a02 := Lib.hid h0'
  have a03 := Lib.hid g0
  have a04 := Lib.hid j0
  clear h0 h0' g0 j0
  have EB := Lib.hid (Below.refl w.heap.size w)
  replace a01 := Lib.hid (a01.out.alloc (Nat.le_refl _) (.cells #[.slice A0 n0 c0, .int .i64 (p0), .slice A0' n0' c0', .int .i64 (q0), .slice E0 m0 d0, .slice F0 l0 k0, .int .i64 (yy0)] 56))
  replace a02 := Lib.hid (a02.out.alloc (Nat.le_refl _) (.cells #[.slice A0 n0 c0, .int .i64 (p0), .slice A0' n0' c0', .int .i64 (q0), .slice E0 m0 d0, .slice F0 l0 k0, .int .i64 (yy0)] 56))
  replace a03 := Lib.hid (a03.out.alloc (Nat.le_refl _) (.cells #[.slice A0 n0 c0, .int .i64 (p0), .slice A0' n0' c0', .int .i64 (q0), .slice E0 m0 d0, .slice F0 l0 k0, .int .i64 (yy0)] 56))
  replace a04 := Lib.hid (a04.out.alloc (Nat.le_refl _) (.cells #[.slice A0 n0 c0, .int .i64 (p0), .slice A0' n0' c0', .int .i64 (q0), .slice E0 m0 d0, .slice F0 l0 k0, .int .i64 (yy0)] 56))
  replace EB := Lib.hid (EB.out.alloc (Nat.le_refl _) (.cells #[.slice A0 n0 c0, .int .i64 (p0), .slice A0' n0' c0', .int .i64 (q0), .slice E0 m0 d0, .slice F0 l0 k0, .int .i64 (yy0)] 56))
  have Ba0 := Lib.hid (Box.new w 56 [.slice A0 n0 c0, .int .i64 (p0), .slice A0' n0' c0', .int .i64 (q0), .slice E0 m0 d0, .slice F0 l0 k0, .int .i64 (yy0)])
  go_enter Try.func6, Try.ntmps6
  go_wp2_with fail
  refine (szBoth_any hm0 hm0' hm0'' hm0''' (by omega) (by omega)).mono ?_
  rintro e w1 ⟨r, rfl, hr, hb⟩
  (try simp only [World.size_alloc, World.size_setCell, World.size_drew] at hb)
  have HB := Lib.hid hb
  clear hb
  have s1 := HB.out.size
  (try simp only [World.size_alloc, World.size_setCell, World.size_drew] at s1)
  replace a01 := Lib.hid (a01.out.below HB.out (by omega))
  replace a02 := Lib.hid (a02.out.below HB.out (by omega))
  replace a03 := Lib.hid (a03.out.below HB.out (by omega))
  replace a04 := Lib.hid (a04.out.below HB.out (by omega))
  replace Ba0 := Lib.hid (Ba0.out.below HB.out (by omega))
  replace EB := Lib.hid (below_step HB.out EB.out (by omega))
  clear HB
  have va0l := Ba0.out.lt
  have va00 := (Ba0.out.2 0 _ rfl).1
  have va01 := (Ba0.out.2 1 _ rfl).1
  have va02 := (Ba0.out.2 2 _ rfl).1
  have va03 := (Ba0.out.2 3 _ rfl).1
  have va04 := (Ba0.out.2 4 _ rfl).1
  have va05 := (Ba0.out.2 5 _ rfl).1
  have va06 := (Ba0.out.2 6 _ rfl).1
  go_wp2_with fail
  · go_ret
    exact ⟨rfl, EB.out⟩
  have hs0 : n0 ≤ 1048576 := by omega
  have hs0' : n0' ≤ 1048576 := by omega
  have hs0'' : m0 ≤ 1048576 := by omega
  have hs0''' : l0 ≤ 1048576 := by omega
  clear hr
  refine (toBoth_any a01.out a02.out a03.out a04.out (by omega) (by omega) (by omega) (by omega) hs0 hs0' hs0'' hs0''' hp0 hq0 hy0).mono ?_
  clear va0l va00 va01 va02 va03 va04 va05 va06
  rintro e w2 ⟨At0, nt0, ct0, At0', nt0', ct0', Et0, mt0, dt0, Ft0, lt0, kt0, rfl, ⟨hct0, hct0', hct0'', hct0'''⟩, hb, ⟨⟨⟨hd0, hd1, ha0, _, _⟩, hd2, ha1, ha2, _⟩, hd3, ha3, ha4, ha5⟩⟩
  (try simp only [World.size_alloc, World.size_setCell, World.size_drew] at hb)
  have HB := Lib.hid hb
  clear hb
  have s2 := HB.out.size
  (try simp only [World.size_alloc, World.size_setCell, World.size_drew] at s2)
  replace a01 := Lib.hid (a01.out.below HB.out (by omega))
  replace a02 := Lib.hid (a02.out.below HB.out (by omega))
  replace a03 := Lib.hid (a03.out.below HB.out (by omega))
  replace a04 := Lib.hid (a04.out.below HB.out (by omega))
  replace Ba0 := Lib.hid (Ba0.out.below HB.out (by omega))
  replace EB := Lib.hid (below_step HB.out EB.out (by omega))
  clear HB
  have t01 := Lib.hid hd0
  have t02 := Lib.hid hd1
  have t03 := Lib.hid hd2
  have t04 := Lib.hid hd3
  have t01_t02 := Lib.hid ha0
  have t03_t01 := Lib.hid ha1
  have t03_t02 := Lib.hid ha2
  have t04_t01 := Lib.hid ha3
  have t04_t02 := Lib.hid ha4
  have t04_t03 := Lib.hid ha5
  clear hd0 hd1 hd2 hd3 ha0 ha1 ha2 ha3 ha4 ha5
  have ht0 : nt0 ≤ 1048576 := by have := t01.out.len; have := HLa0.out; omega
  have ht0' : nt0' ≤ 1048576 := by have := t02.out.len; have := HLb0.out; omega
  have ht0'' : mt0 ≤ 1048576 := by have := t03.out.len; have := HLc0.out; omega
  have ht0''' : lt0 ≤ 1048576 := by have := t04.out.len; have := HLd0.out; omega
  go_wp2_with fail
  refine (SValidBoth_x t01.out t02.out t03.out t04.out (by omega) (by omega) (by omega) (by omega) hct0 hct0' hct0'' hct0''' ht0 ht0' ht0'' ht0''').mono ?_
  rintro e w3 ⟨rfl, hb⟩
  (try simp only [World.size_alloc, World.size_setCell, World.size_drew] at hb)
  have HB := Lib.hid hb
  clear hb
  have s3 := HB.out.size
  (try simp only [World.size_alloc, World.size_setCell, World.size_drew] at s3)
  replace a01 := Lib.hid (a01.out.below HB.out (by omega))
  replace a02 := Lib.hid (a02.out.below HB.out (by omega))
  replace a03 := Lib.hid (a03.out.below HB.out (by omega))
  replace a04 := Lib.hid (a04.out.below HB.out (by omega))
  replace Ba0 := Lib.hid (Ba0.out.below HB.out (by omega))
  replace t01 := Lib.hid (t01.out.below HB.out (by omega))
  replace t02 := Lib.hid (t02.out.below HB.out (by omega))
  replace t03 := Lib.hid (t03.out.below HB.out (by omega))
  replace t04 := Lib.hid (t04.out.below HB.out (by omega))
  replace EB := Lib.hid (below_step HB.out EB.out (by omega))
  clear HB
  clear t01 t02 t03 t04
  have va0l := Ba0.out.lt
  have va00 := (Ba0.out.2 0 _ rfl).1
  have va01 := (Ba0.out.2 1 _ rfl).1
  have va02 := (Ba0.out.2 2 _ rfl).1
  have va03 := (Ba0.out.2 3 _ rfl).1
  have va04 := (Ba0.out.2 4 _ rfl).1
  have va05 := (Ba0.out.2 5 _ rfl).1
  have va06 := (Ba0.out.2 6 _ rfl).1
  go_wp2_with fail
  refine (toBoth_any a01.out a02.out a03.out a04.out (by omega) (by omega) (by omega) (by omega) hs0 hs0' hs0'' hs0''' hp0 hq0 hy0).mono ?_
  clear va0l va00 va01 va02 va03 va04 va05 va06
  rintro e w4 ⟨Ax0, nx0, cx0, Ax0', nx0', cx0', Ex0, mx0, dx0, Fx0, lx0, kx0, rfl, ⟨hcx0, hcx0', hcx0'', hcx0'''⟩, hb, ⟨⟨⟨hd0, hd1, ha0, _, _⟩, hd2, ha1, ha2, _⟩, hd3, ha3, ha4, ha5⟩⟩
  (try simp only [World.size_alloc, World.size_setCell, World.size_drew] at hb)
  have HB := Lib.hid hb
  clear hb
  have s4 := HB.out.size
  (try simp only [World.size_alloc, World.size_setCell, World.size_drew] at s4)
  replace a01 := Lib.hid (a01.out.below HB.out (by omega))
  replace a02 := Lib.hid (a02.out.below HB.out (by omega))
  replace a03 := Lib.hid (a03.out.below HB.out (by omega))
  replace a04 := Lib.hid (a04.out.below HB.out (by omega))
  replace Ba0 := Lib.hid (Ba0.out.below HB.out (by omega))
  replace EB := Lib.hid (below_step HB.out EB.out (by omega))
  clear HB
  have x01 := Lib.hid hd0
  have x02 := Lib.hid hd1
  have x03 := Lib.hid hd2
  have x04 := Lib.hid hd3
  have x01_x02 := Lib.hid ha0
  have x03_x01 := Lib.hid ha1
  have x03_x02 := Lib.hid ha2
  have x04_x01 := Lib.hid ha3
  have x04_x02 := Lib.hid ha4
  have x04_x03 := Lib.hid ha5
  clear hd0 hd1 hd2 hd3 ha0 ha1 ha2 ha3 ha4 ha5
  have hx0 : nx0 ≤ 1048576 := by have := x01.out.len; have := HLa0.out; omega
  have hx0' : nx0' ≤ 1048576 := by have := x02.out.len; have := HLb0.out; omega
  have hx0'' : mx0 ≤ 1048576 := by have := x03.out.len; have := HLc0.out; omega
  have hx0''' : lx0 ≤ 1048576 := by have := x04.out.len; have := HLd0.out; omega
  go_wp2_with fail
  replace a01 := Lib.hid (a01.out.alloc (by omega) (.cells #[.slice Ax0 nx0 cx0, .int .i64 (p0), .slice Ax0' nx0' cx0', .int .i64 (q0), .slice Ex0 mx0 dx0, .slice Fx0 lx0 kx0, .int .i64 (yy0)] 60))
  replace a02 := Lib.hid (a02.out.alloc (by omega) (.cells #[.slice Ax0 nx0 cx0, .int .i64 (p0), .slice Ax0' nx0' cx0', .int .i64 (q0), .slice Ex0 mx0 dx0, .slice Fx0 lx0 kx0, .int .i64 (yy0)] 60))
  replace a03 := Lib.hid (a03.out.alloc (by omega) (.cells #[.slice Ax0 nx0 cx0, .int .i64 (p0), .slice Ax0' nx0' cx0', .int .i64 (q0), .slice Ex0 mx0 dx0, .slice Fx0 lx0 kx0, .int .i64 (yy0)] 60))
  replace a04 := Lib.hid (a04.out.alloc (by omega) (.cells #[.slice Ax0 nx0 cx0, .int .i64 (p0), .slice Ax0' nx0' cx0', .int .i64 (q0), .slice Ex0 mx0 dx0, .slice Fx0 lx0 kx0, .int .i64 (yy0)] 60))
  replace Ba0 := Lib.hid (Ba0.out.alloc (.cells #[.slice Ax0 nx0 cx0, .int .i64 (p0), .slice Ax0' nx0' cx0', .int .i64 (q0), .slice Ex0 mx0 dx0, .slice Fx0 lx0 kx0, .int .i64 (yy0)] 60))
  replace x01 := Lib.hid (x01.out.alloc (by omega) (.cells #[.slice Ax0 nx0 cx0, .int .i64 (p0), .slice Ax0' nx0' cx0', .int .i64 (q0), .slice Ex0 mx0 dx0, .slice Fx0 lx0 kx0, .int .i64 (yy0)] 60))
  replace x02 := Lib.hid (x02.out.alloc (by omega) (.cells #[.slice Ax0 nx0 cx0, .int .i64 (p0), .slice Ax0' nx0' cx0', .int .i64 (q0), .slice Ex0 mx0 dx0, .slice Fx0 lx0 kx0, .int .i64 (yy0)] 60))
  replace x03 := Lib.hid (x03.out.alloc (by omega) (.cells #[.slice Ax0 nx0 cx0, .int .i64 (p0), .slice Ax0' nx0' cx0', .int .i64 (q0), .slice Ex0 mx0 dx0, .slice Fx0 lx0 kx0, .int .i64 (yy0)] 60))
  replace x04 := Lib.hid (x04.out.alloc (by omega) (.cells #[.slice Ax0 nx0 cx0, .int .i64 (p0), .slice Ax0' nx0' cx0', .int .i64 (q0), .slice Ex0 mx0 dx0, .slice Fx0 lx0 kx0, .int .i64 (yy0)] 60))
  replace EB := Lib.hid (EB.out.alloc (by omega) (.cells #[.slice Ax0 nx0 cx0, .int .i64 (p0), .slice Ax0' nx0' cx0', .int .i64 (q0), .slice Ex0 mx0 dx0, .slice Fx0 lx0 kx0, .int .i64 (yy0)] 60))
  have Bx0 := Lib.hid (Box.new w4 60 [.slice Ax0 nx0 cx0, .int .i64 (p0), .slice Ax0' nx0' cx0', .int .i64 (q0), .slice Ex0 mx0 dx0, .slice Fx0 lx0 kx0, .int .i64 (yy0)])
  have s5 : w4.heap.size + 1 ≤ (w4.alloc (.cells #[.slice Ax0 nx0 cx0, .int .i64 (p0), .slice Ax0' nx0' cx0', .int .i64 (q0), .slice Ex0 mx0 dx0, .slice Fx0 lx0 kx0, .int .i64 (yy0)] 60)).heap.size := by simp
  generalize w4.alloc (.cells #[.slice Ax0 nx0 cx0, .int .i64 (p0), .slice Ax0' nx0' cx0', .int .i64 (q0), .slice Ex0 mx0 dx0, .slice Fx0 lx0 kx0, .int .i64 (yy0)] 60) = w5 at *
  refine (ValidBoth_x x01.out x02.out x03.out x04.out (by omega) (by omega) (by omega) (by omega) hcx0 hcx0' hcx0'' hcx0''' hx0 hx0' hx0'' hx0''').mono ?_
  rintro e w6 ⟨rfl, hb⟩
  (try simp only [World.size_alloc, World.size_setCell, World.size_drew] at hb)
  have HB := Lib.hid hb
  clear hb
  have s6 := HB.out.size
  (try simp only [World.size_alloc, World.size_setCell, World.size_drew] at s6)
  replace a01 := Lib.hid (a01.out.below HB.out (by omega))
  replace a02 := Lib.hid (a02.out.below HB.out (by omega))
  replace a03 := Lib.hid (a03.out.below HB.out (by omega))
  replace a04 := Lib.hid (a04.out.below HB.out (by omega))
  replace Ba0 := Lib.hid (Ba0.out.below HB.out (by omega))
  replace x01 := Lib.hid (x01.out.below HB.out (by omega))
  replace x02 := Lib.hid (x02.out.below HB.out (by omega))
  replace x03 := Lib.hid (x03.out.below HB.out (by omega))
  replace x04 := Lib.hid (x04.out.below HB.out (by omega))
  replace Bx0 := Lib.hid (Bx0.out.below HB.out (by omega))
  replace EB := Lib.hid (below_step HB.out EB.out (by omega))
  clear HB
  go_wp2_with fail
  have va0l := Ba0.out.lt
  have va00 := (Ba0.out.2 0 _ rfl).1
  have va01 := (Ba0.out.2 1 _ rfl).1
  have va02 := (Ba0.out.2 2 _ rfl).1
  have va03 := (Ba0.out.2 3 _ rfl).1
  have va04 := (Ba0.out.2 4 _ rfl).1
  have va05 := (Ba0.out.2 5 _ rfl).1
  have va06 := (Ba0.out.2 6 _ rfl).1
  have vx0l := Bx0.out.lt
  have vx00 := (Bx0.out.2 0 _ rfl).1
  have vx01 := (Bx0.out.2 1 _ rfl).1
  have vx02 := (Bx0.out.2 2 _ rfl).1
  have vx03 := (Bx0.out.2 3 _ rfl).1
  have vx04 := (Bx0.out.2 4 _ rfl).1
  have vx05 := (Bx0.out.2 5 _ rfl).1
  have vx06 := (Bx0.out.2 6 _ rfl).1
  go_wp2_with fail
  clear va0l va00 va01 va02 va03 va04 va05 va06 vx0l vx00 vx01 vx02 vx03 vx04 vx05 vx06
  have EC := Lib.hid EB.out
  have xl := Ba0.out.lt
  have x0 := (Ba0.out.2 0 _ rfl).1
  have x1 := (Ba0.out.2 1 _ rfl).1
  have x2 := (Ba0.out.2 2 _ rfl).1
  have x3 := (Ba0.out.2 3 _ rfl).1
  have x4 := (Ba0.out.2 4 _ rfl).1
  have x5 := (Ba0.out.2 5 _ rfl).1
  have x6 := (Ba0.out.2 6 _ rfl).1
  have yl := Bx0.out.lt
  have y0 := (Bx0.out.2 0 _ rfl).1
  have y1 := (Bx0.out.2 1 _ rfl).1
  have y2 := (Bx0.out.2 2 _ rfl).1
  have y3 := (Bx0.out.2 3 _ rfl).1
  have y4 := (Bx0.out.2 4 _ rfl).1
  have y5 := (Bx0.out.2 5 _ rfl).1
  have y6 := (Bx0.out.2 6 _ rfl).1
  go_region_held3 (fun w' => (w'.cell? ⟨w.heap.size, 0, none⟩ = some (.slice A0 n0 c0) ∧ w'.cell? ⟨w.heap.size, 1, none⟩ = some (.int .i64 (p0)) ∧ w'.cell? ⟨w.heap.size, 2, none⟩ = some (.slice A0' n0' c0') ∧ w'.cell? ⟨w.heap.size, 3, none⟩ = some (.int .i64 (q0)) ∧ w'.cell? ⟨w.heap.size, 4, none⟩ = some (.slice E0 m0 d0) ∧ w'.cell? ⟨w.heap.size, 5, none⟩ = some (.slice F0 l0 k0) ∧ w'.cell? ⟨w.heap.size, 6, none⟩ = some (.int .i64 (yy0))) ∧ (w'.cell? ⟨w4.heap.size, 0, none⟩ = some (.slice Ax0 nx0 cx0) ∧ w'.cell? ⟨w4.heap.size, 1, none⟩ = some (.int .i64 (p0)) ∧ w'.cell? ⟨w4.heap.size, 2, none⟩ = some (.slice Ax0' nx0' cx0') ∧ w'.cell? ⟨w4.heap.size, 3, none⟩ = some (.int .i64 (q0)) ∧ w'.cell? ⟨w4.heap.size, 4, none⟩ = some (.slice Ex0 mx0 dx0) ∧ w'.cell? ⟨w4.heap.size, 5, none⟩ = some (.slice Fx0 lx0 kx0) ∧ w'.cell? ⟨w4.heap.size, 6, none⟩ = some (.int .i64 (yy0)))) (go_keep)
    (first | (go_at_call 40; refine (toBoth_any a01.out.drew a02.out.drew a03.out.drew a04.out.drew (by first | omega | (simp; omega) | (simp; done)) (by first | omega | (simp; omega) | (simp; done)) (by first | omega | (simp; omega) | (simp; done)) (by first | omega | (simp; omega) | (simp; done)) hs0 hs0' hs0'' hs0''' hp0 hq0 hy0).mono ?_; rintro e w7 ⟨Ak, nk, ck, Ak', nk', ck', Ek, mk, dk, Fk, lk, kk, rfl, ⟨_, _, _, _⟩, hb, ⟨⟨⟨hd0, hd1, _, _, _⟩, hd2, _, _, _⟩, hd3, _, _, _⟩⟩; (try simp only [World.size_alloc, World.size_setCell, World.size_drew] at hb hd0 hd1 hd2 hd3); have HB := Lib.hid hb; have HK1 := Lib.hid hd0; have HK2 := Lib.hid hd1; have HK3 := Lib.hid hd2; have HK4 := Lib.hid hd3; have sa := hb.size; (try simp only [World.size_alloc, World.size_setCell, World.size_drew] at sa); have BA := Lib.hid (Ba0.out.drew.below hb (by omega)); have BX := Lib.hid (Bx0.out.drew.below hb (by omega)); clear hb hd0 hd1 hd2 hd3; have x0 := (BA.out.2 0 _ rfl).1; have x1 := (BA.out.2 1 _ rfl).1; have x2 := (BA.out.2 2 _ rfl).1; have x3 := (BA.out.2 3 _ rfl).1; have x4 := (BA.out.2 4 _ rfl).1; have x5 := (BA.out.2 5 _ rfl).1; have x6 := (BA.out.2 6 _ rfl).1; have y0 := (BX.out.2 0 _ rfl).1; have y1 := (BX.out.2 1 _ rfl).1; have y2 := (BX.out.2 2 _ rfl).1; have y3 := (BX.out.2 3 _ rfl).1; have y4 := (BX.out.2 4 _ rfl).1; have y5 := (BX.out.2 5 _ rfl).1; have y6 := (BX.out.2 6 _ rfl).1) | (go_at_call 42; refine (eqBoth_same (x01.out.drew.below HB.out (by omega)) (x02.out.drew.below HB.out (by omega)) (x03.out.drew.below HB.out (by omega)) (x04.out.drew.below HB.out (by omega)) HK1.out HK2.out HK3.out HK4.out (by omega) (by omega) (by omega) (by omega) (by omega) (by omega) (by omega) (by omega)).mono ?_; rintro e w8 ⟨rfl, hb⟩; have HC := Lib.hid hb; have sb := hb.size; have CA := Lib.hid (BA.out.below hb (by omega)); have CX := Lib.hid (BX.out.below hb (by omega)); clear hb; have x0 := (CA.out.2 0 _ rfl).1; have x1 := (CA.out.2 1 _ rfl).1; have x2 := (CA.out.2 2 _ rfl).1; have x3 := (CA.out.2 3 _ rfl).1; have x4 := (CA.out.2 4 _ rfl).1; have x5 := (CA.out.2 5 _ rfl).1; have x6 := (CA.out.2 6 _ rfl).1; have y0 := (CX.out.2 0 _ rfl).1; have y1 := (CX.out.2 1 _ rfl).1; have y2 := (CX.out.2 2 _ rfl).1; have y3 := (CX.out.2 3 _ rfl).1; have y4 := (CX.out.2 4 _ rfl).1; have y5 := (CX.out.2 5 _ rfl).1; have y6 := (CX.out.2 6 _ rfl).1))
  have HD : Hid (Below w6.heap.size w6 w8) := below_step HC.out (below_step HB.out (Below.refl _ _).drew (by simp)) (by omega)
  have s8 := HD.out.size
  clear xl x0 x1 x2 x3 x4 x5 x6 yl y0 y1 y2 y3 y4 y5 y6
  replace a01 := Lib.hid (a01.out.below HD.out (by omega))
  replace a02 := Lib.hid (a02.out.below HD.out (by omega))
  replace a03 := Lib.hid (a03.out.below HD.out (by omega))
  replace a04 := Lib.hid (a04.out.below HD.out (by omega))
  replace Ba0 := Lib.hid (Ba0.out.below HD.out (by omega))
  replace x01 := Lib.hid (x01.out.below HD.out (by omega))
  replace x02 := Lib.hid (x02.out.below HD.out (by omega))
  replace x03 := Lib.hid (x03.out.below HD.out (by omega))
  replace x04 := Lib.hid (x04.out.below HD.out (by omega))
  replace Bx0 := Lib.hid (Bx0.out.below HD.out (by omega))
  replace EB := Lib.hid (below_step HD.out EB.out (by omega))
  clear HB HC HD HK1 HK2 HK3 HK4 BA BX CA CX
  go_wp2
  go_ret
  exact ⟨rfl, EB.out⟩

theorem contract (H : Type) (enc : TypeId × Value → H) (W : World) (base : Nat) (args : Array Value) (ds gs : List (DataW H)) (before : List MemPlace)
    (hval : ∀ (j : Nat) t v, Try.f6.params[j]? = some t → args[j]? = some v → Value.okWide Try.prog W .any base t v)
    (hW : DataW.Whole enc Try.prog Try.f6.params.toList Rows.fnExactValidBothSpec.vars false W args.toList ds gs before) :
    Calls Try.prog 6 args W fun e W' => ∃ v, e = .returned v ∧ Rows.fnExactValidBothSpec.post enc Try.prog Try.f6 false true false false W args v W' := by
  have hW' := hW
  have hlt : ∀ p ∈ before, p.block < W.heap.size := fun p hp => hW.lt p hp
  obtain ⟨p, q, hA0, hV, rfl, hfz, hnd⟩ := hW
  have hA : DataW.TrodAll enc Try.prog W 0 (fun _ => true) true Try.f6.params.toList args.toList ds p := hA0
  rw [Try.params6] at hA hval
  obtain ⟨v0, vs0, d0, ds0, p0, q0, hargs, rfl, rfl, h0, r0⟩ := trodAll_cons hA
  obtain ⟨rfl, rfl, rfl⟩ := trodAll_nil r0
  obtain rfl : args = #[v0] := by cases args; simp_all
  obtain ⟨rfl, rfl⟩ := trodVars_none hV
  obtain ⟨A, n, c, x, A', n', c', y, A2, n2, c2, A3, n3, c3, u, D, S, R, Q, rfl, hD0, hS0, hR0, hQ0, hx0, hy0, hu0⟩ := arg_both (hval 0 _ v0 rfl rfl) h0 (fun p hp => hlt p (by simp [hp])) (fun b o hp => hfz b o (by simp [hp]))
  refine (walk _ _ _ _ _ _ _ _ _ _ _ _ _ _ _ _ _ _ _ W hD0 hS0 hR0 hQ0 hx0 hy0 hu0).mono fun e W' hh => ?_
  obtain ⟨rfl, hb⟩ := hh
  exact ⟨_, rfl, law_post laidOut (tys_of (by rw [Try.params6]; kernel_rfl)) hW' rfl rfl rfl Try.underlying4 hb⟩

set_option maxRecDepth 100000 in
theorem lifted (os : Os) (started : os.Started) (H : Type) (enc : TypeId × Value → H) :
    ReturnsInHanded {} Try.checked os 6 .any (Rows.fnExactValidBothSpec.pre6 enc Try.prog Try.f6 Rows.fnExactValidBothRow.domain false) (Rows.fnExactValidBothSpec.post enc Try.prog Try.f6 false true false false) := by
  refine returnsInHanded_of_change (C := Try.checked) own started (by kernel_rfl) Try.func6
    (ChangeSpec.witness6 (C := Try.checked) false ⟨#[], #[.agg #[.slice none 0 0, .int .i64 0, .slice none 0 0, .int .i64 0, .slice none 0 0, .slice none 0 0, .int .i64 0]], []⟩ 8 (by kernel_rfl) (by kernel_rfl) (by kernel_rfl) (by kernel_rfl)) ?_
  intro W base args ds gs before hval hW _ _
  exact contract H enc W base args ds gs before hval hW

theorem holds : Rows.FnExactValidBothSaid :=
  OpenClaim.holds_of_wide 6 Try.f6 rfl rfl rfl rfl rfl rfl rfl ⟨rfl, rfl, rfl, rfl, rfl⟩ rfl rfl rfl rfl rfl (by kernel_rfl) Try.func6 (by kernel_rfl)
    (of_decide_eq_true (by kernel_rfl)) (by unfold Func.isWrapper; first | (rw [if_pos (by decide +kernel)]; kernel_rfl) | (rw [if_neg (by decide +kernel)]; exact ⟨rfl, rfl⟩))
    (fun os started H enc _ => lifted os started H enc)
end ExactValidBoth
end Go.Proofs.Ytjiecnideghffaa
