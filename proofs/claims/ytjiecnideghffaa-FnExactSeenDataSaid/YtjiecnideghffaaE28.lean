/- The exact law of SeenData: for all arguments the function answers as its model, and writes into none. -/
import Derived.Test.YtjiecnideghffaaLawBase
import Derived.Test.YtjiecnideghffaaL7
import Derived.Test.YtjiecnideghffaaS3b
set_option maxRecDepth 10000
namespace Go.Proofs.Ytjiecnideghffaa
open Go.ChangeShapes Go.WideShapes Go.ChangeAt Go.RowKit
set_option linter.unusedSimpArgs false
set_option linter.unusedVariables false
namespace ExactSeenData
set_option maxHeartbeats 16000000 in
theorem walk (A0 A0' E0 : Option Addr) (n0 c0 n0' c0' m0 d0 : Nat) (D0 S0 R0 : List Int) (p0 q0 yy0 : Int) (w : World) (h0 : Ints w 0 w.heap.size A0 n0 D0) (h0' : Ints w 0 w.heap.size A0' n0' S0) (g0 : Ints w 0 w.heap.size E0 m0 R0) (hp0 : okInt p0) (hq0 : okInt q0) (hy0 : okInt yy0) :
    Calls Try.prog 5 #[.agg #[.slice A0 n0 c0, .int .i64 (p0), .slice A0' n0' c0', .int .i64 (q0), .slice E0 m0 d0, .int .i64 (yy0)]] w (BoolB true w) := by
  have HLa0 := Lib.hid h0.len
  have HLb0 := Lib.hid h0'.len
  have HLc0 := Lib.hid g0.len
  have hm0 := h0.max
  have hm0' := h0'.max
  have hm0'' := g0.max
  have a01 := Lib.hid h0
  have a02 := Lib.hid h0'
  have a03 := Lib.hid g0
  clear h0 h0' g0
  have EB := Lib.hid (Below.refl w.heap.size w)
  replace a01 := Lib.hid (a01.out.alloc (Nat.le_refl _) (.cells #[.slice A0 n0 c0, .int .i64 (p0), .slice A0' n0' c0', .int .i64 (q0), .slice E0 m0 d0, .int .i64 (yy0)] 47))
  replace a02 := Lib.hid (a02.out.alloc (Nat.le_refl _) (.cells #[.slice A0 n0 c0, .int .i64 (p0), .slice A0' n0' c0', .int .i64 (q0), .slice E0 m0 d0, .int .i64 (yy0)] 47))
  replace a03 := Lib.hid (a03.out.alloc (Nat.le_refl _) (.cells #[.slice A0 n0 c0, .int .i64 (p0), .slice A0' n0' c0', .int .i64 (q0), .slice E0 m0 d0, .int .i64 (yy0)] 47))
  replace EB := Lib.hid (EB.out.alloc (Nat.le_refl _) (.cells #[.slice A0 n0 c0, .int .i64 (p0), .slice A0' n0' c0', .int .i64 (q0), .slice E0 m0 d0, .int .i64 (yy0)] 47))
  have Ba0 := Lib.hid (Box.new w 47 [.slice A0 n0 c0, .int .i64 (p0), .slice A0' n0' c0', .int .i64 (q0), .slice E0 m0 d0, .int .i64 (yy0)])
  go_enter Try.func5, Try.ntmps5
  go_wp2_with fail
  refine (szWriter_any hm0 hm0' hm0'' (by omega) (by omega)).mono ?_
  rintro e w1 ⟨r, rfl, hr, hb⟩
  (try simp only [World.size_alloc, World.size_setCell, World.size_drew] at hb)
  have HB := Lib.hid hb
  clear hb
  have s1 := HB.out.size
  (try simp only [World.size_alloc, World.size_setCell, World.size_drew] at s1)
  replace a01 := Lib.hid (a01.out.below HB.out (by omega))
  replace a02 := Lib.hid (a02.out.below HB.out (by omega))
  replace a03 := Lib.hid (a03.out.below HB.out (by omega))
  replace Ba0 := Lib.hid (Ba0.out.below HB.out (by omega))
  replace EB := Lib.hid (below_step HB.out EB.out (by omega))
  clear HB
  have va0l := Ba0.out.lt
  have va00 := (Ba0.out.2 0 _ rfl).1
  have va01 := (Ba0.out.2 1 _ rfl).1
  have va02 := (Ba0.out.2 2 _ rfl).1
  have va03 := (Ba0.out.2 3 _ rfl).1
  have va04 := (Ba0.out.2 4 _ rfl).1
  have va05 := (Ba0.out.2 5 _ rfl).1
  go_wp2_with fail
  · go_ret
    exact ⟨rfl, EB.out⟩
  have hn0 : n0 ≤ 1048576 := by omega
  have hn0' : n0' ≤ 1048576 := by omega
  have hm0 : m0 ≤ 1048576 := by omega
  clear hr
  refine (toWriter_any a01.out a02.out a03.out (by omega) (by omega) (by omega) hn0 hn0' hm0 hp0 hq0 hy0).mono ?_
  clear va0l va00 va01 va02 va03 va04 va05
  rintro e w2 ⟨At0, nt0, ct0, At0', nt0', ct0', Et0, mt0, dt0, rfl, ⟨hct0, hct0', hct0''⟩, hb, ⟨⟨hd, hd', ha, _, _⟩, hr, ha1, ha2, _⟩⟩
  (try simp only [World.size_alloc, World.size_setCell, World.size_drew] at hb)
  have HB := Lib.hid hb
  clear hb
  have s2 := HB.out.size
  (try simp only [World.size_alloc, World.size_setCell, World.size_drew] at s2)
  replace a01 := Lib.hid (a01.out.below HB.out (by omega))
  replace a02 := Lib.hid (a02.out.below HB.out (by omega))
  replace a03 := Lib.hid (a03.out.below HB.out (by omega))
  replace Ba0 := Lib.hid (Ba0.out.below HB.out (by omega))
  replace EB := Lib.hid (below_step HB.out EB.out (by omega))
  clear HB
  have t01 := Lib.hid hd
  have t02 := Lib.hid hd'
  have t03 := Lib.hid hr
  have t0a := Lib.hid ha
  have t0b := Lib.hid ha1
  have t0c := Lib.hid ha2
  clear hd hd' hr ha ha1 ha2
  have ht0 : nt0 ≤ 1048576 := by have := t01.out.len; have := HLa0.out; omega
  have ht0' : nt0' ≤ 1048576 := by have := t02.out.len; have := HLb0.out; omega
  have ht0'' : mt0 ≤ 1048576 := by have := t03.out.len; have := HLc0.out; omega
  go_wp2_with fail
  refine (SSeenData_x t01.out t02.out t03.out (by omega) (by omega) (by omega) hct0 hct0' hct0'' ht0 ht0' ht0'').mono ?_
  rintro e w3 ⟨Lu, mu, du, rfl, _, hb, hl⟩
  (try simp only [World.size_alloc, World.size_setCell, World.size_drew] at hb)
  have HB := Lib.hid hb
  clear hb
  have s3 := HB.out.size
  (try simp only [World.size_alloc, World.size_setCell, World.size_drew] at s3)
  replace a01 := Lib.hid (a01.out.below HB.out (by omega))
  replace a02 := Lib.hid (a02.out.below HB.out (by omega))
  replace a03 := Lib.hid (a03.out.below HB.out (by omega))
  replace Ba0 := Lib.hid (Ba0.out.below HB.out (by omega))
  replace t01 := Lib.hid (t01.out.below HB.out (by omega))
  replace t02 := Lib.hid (t02.out.below HB.out (by omega))
  replace t03 := Lib.hid (t03.out.below HB.out (by omega))
  replace EB := Lib.hid (below_step HB.out EB.out (by omega))
  clear HB
  have u1 := Lib.hid hl
  clear hl
  obtain ⟨hx0⟩ := And.intro (seenOut_le D0 p0 S0 q0 R0 yy0) trivial
  have hl_u1 : mu ≤ 1048576 := by have := u1.out.len; omega
  clear hx0
  clear t01 t02 t03
  have va0l := Ba0.out.lt
  have va00 := (Ba0.out.2 0 _ rfl).1
  have va01 := (Ba0.out.2 1 _ rfl).1
  have va02 := (Ba0.out.2 2 _ rfl).1
  have va03 := (Ba0.out.2 3 _ rfl).1
  have va04 := (Ba0.out.2 4 _ rfl).1
  have va05 := (Ba0.out.2 5 _ rfl).1
  go_wp2_with fail
  refine (toWriter_any a01.out a02.out a03.out (by omega) (by omega) (by omega) hn0 hn0' hm0 hp0 hq0 hy0).mono ?_
  clear va0l va00 va01 va02 va03 va04 va05
  rintro e w4 ⟨Ax0, nx0, cx0, Ax0', nx0', cx0', Ex0, mx0, dx0, rfl, ⟨hcx0, hcx0', hcx0''⟩, hb, ⟨⟨hd, hd', ha, _, _⟩, hr, ha1, ha2, _⟩⟩
  (try simp only [World.size_alloc, World.size_setCell, World.size_drew] at hb)
  have HB := Lib.hid hb
  clear hb
  have s4 := HB.out.size
  (try simp only [World.size_alloc, World.size_setCell, World.size_drew] at s4)
  replace a01 := Lib.hid (a01.out.below HB.out (by omega))
  replace a02 := Lib.hid (a02.out.below HB.out (by omega))
  replace a03 := Lib.hid (a03.out.below HB.out (by omega))
  replace Ba0 := Lib.hid (Ba0.out.below HB.out (by omega))
  replace u1 := Lib.hid (u1.out.below HB.out (by omega))
  replace EB := Lib.hid (below_step HB.out EB.out (by omega))
  clear HB
  have x01 := Lib.hid hd
  have x02 := Lib.hid hd'
  have x03 := Lib.hid hr
  have x0a := Lib.hid ha
  have x0b := Lib.hid ha1
  have x0c := Lib.hid ha2
  clear hd hd' hr ha ha1 ha2
  have hx0 : nx0 ≤ 1048576 := by have := x01.out.len; have := HLa0.out; omega
  have hx0' : nx0' ≤ 1048576 := by have := x02.out.len; have := HLb0.out; omega
  have hx0'' : mx0 ≤ 1048576 := by have := x03.out.len; have := HLc0.out; omega
  go_wp2_with fail
  replace a01 := Lib.hid (a01.out.alloc (by omega) (.cells #[.slice Ax0 nx0 cx0, .int .i64 (p0), .slice Ax0' nx0' cx0', .int .i64 (q0), .slice Ex0 mx0 dx0, .int .i64 (yy0)] 50))
  replace a02 := Lib.hid (a02.out.alloc (by omega) (.cells #[.slice Ax0 nx0 cx0, .int .i64 (p0), .slice Ax0' nx0' cx0', .int .i64 (q0), .slice Ex0 mx0 dx0, .int .i64 (yy0)] 50))
  replace a03 := Lib.hid (a03.out.alloc (by omega) (.cells #[.slice Ax0 nx0 cx0, .int .i64 (p0), .slice Ax0' nx0' cx0', .int .i64 (q0), .slice Ex0 mx0 dx0, .int .i64 (yy0)] 50))
  replace Ba0 := Lib.hid (Ba0.out.alloc (.cells #[.slice Ax0 nx0 cx0, .int .i64 (p0), .slice Ax0' nx0' cx0', .int .i64 (q0), .slice Ex0 mx0 dx0, .int .i64 (yy0)] 50))
  replace u1 := Lib.hid (u1.out.alloc (by omega) (.cells #[.slice Ax0 nx0 cx0, .int .i64 (p0), .slice Ax0' nx0' cx0', .int .i64 (q0), .slice Ex0 mx0 dx0, .int .i64 (yy0)] 50))
  replace x01 := Lib.hid (x01.out.alloc (by omega) (.cells #[.slice Ax0 nx0 cx0, .int .i64 (p0), .slice Ax0' nx0' cx0', .int .i64 (q0), .slice Ex0 mx0 dx0, .int .i64 (yy0)] 50))
  replace x02 := Lib.hid (x02.out.alloc (by omega) (.cells #[.slice Ax0 nx0 cx0, .int .i64 (p0), .slice Ax0' nx0' cx0', .int .i64 (q0), .slice Ex0 mx0 dx0, .int .i64 (yy0)] 50))
  replace x03 := Lib.hid (x03.out.alloc (by omega) (.cells #[.slice Ax0 nx0 cx0, .int .i64 (p0), .slice Ax0' nx0' cx0', .int .i64 (q0), .slice Ex0 mx0 dx0, .int .i64 (yy0)] 50))
  replace EB := Lib.hid (EB.out.alloc (by omega) (.cells #[.slice Ax0 nx0 cx0, .int .i64 (p0), .slice Ax0' nx0' cx0', .int .i64 (q0), .slice Ex0 mx0 dx0, .int .i64 (yy0)] 50))
  have Bx0 := Lib.hid (Box.new w4 50 [.slice Ax0 nx0 cx0, .int .i64 (p0), .slice Ax0' nx0' cx0', .int .i64 (q0), .slice Ex0 mx0 dx0, .int .i64 (yy0)])
  have s5 : w4.heap.size + 1 ≤ (w4.alloc (.cells #[.slice Ax0 nx0 cx0, .int .i64 (p0), .slice Ax0' nx0' cx0', .int .i64 (q0), .slice Ex0 mx0 dx0, .int .i64 (yy0)] 50)).heap.size := by simp
  generalize w4.alloc (.cells #[.slice Ax0 nx0 cx0, .int .i64 (p0), .slice Ax0' nx0' cx0', .int .i64 (q0), .slice Ex0 mx0 dx0, .int .i64 (yy0)] 50) = w5 at *
  refine (SeenData_x x01.out x02.out x03.out (by omega) (by omega) (by omega) hcx0 hcx0' hcx0'' hx0 hx0' hx0'').mono ?_
  rintro e w6 ⟨Lg, mg, dg, rfl, _, hb, hl⟩
  (try simp only [World.size_alloc, World.size_setCell, World.size_drew] at hb)
  have HB := Lib.hid hb
  clear hb
  have s6 := HB.out.size
  (try simp only [World.size_alloc, World.size_setCell, World.size_drew] at s6)
  replace a01 := Lib.hid (a01.out.below HB.out (by omega))
  replace a02 := Lib.hid (a02.out.below HB.out (by omega))
  replace a03 := Lib.hid (a03.out.below HB.out (by omega))
  replace Ba0 := Lib.hid (Ba0.out.below HB.out (by omega))
  replace u1 := Lib.hid (u1.out.below HB.out (by omega))
  replace x01 := Lib.hid (x01.out.below HB.out (by omega))
  replace x02 := Lib.hid (x02.out.below HB.out (by omega))
  replace x03 := Lib.hid (x03.out.below HB.out (by omega))
  replace Bx0 := Lib.hid (Bx0.out.below HB.out (by omega))
  replace EB := Lib.hid (below_step HB.out EB.out (by omega))
  clear HB
  have g1 := Lib.hid hl
  clear hl
  obtain ⟨hx0⟩ := And.intro (seenOut_le D0 p0 S0 q0 R0 yy0) trivial
  have hl_g1 : mg ≤ 1048576 := by have := g1.out.len; omega
  clear hx0
  go_wp2_with fail
  refine (eqIntS_same g1.out u1.out).mono ?_
  rintro e w7 ⟨rfl, hb⟩
  (try simp only [World.size_alloc, World.size_setCell, World.size_drew] at hb)
  have HB := Lib.hid hb
  clear hb
  have s7 := HB.out.size
  (try simp only [World.size_alloc, World.size_setCell, World.size_drew] at s7)
  replace a01 := Lib.hid (a01.out.below HB.out (by omega))
  replace a02 := Lib.hid (a02.out.below HB.out (by omega))
  replace a03 := Lib.hid (a03.out.below HB.out (by omega))
  replace Ba0 := Lib.hid (Ba0.out.below HB.out (by omega))
  replace u1 := Lib.hid (u1.out.below HB.out (by omega))
  replace x01 := Lib.hid (x01.out.below HB.out (by omega))
  replace x02 := Lib.hid (x02.out.below HB.out (by omega))
  replace x03 := Lib.hid (x03.out.below HB.out (by omega))
  replace Bx0 := Lib.hid (Bx0.out.below HB.out (by omega))
  replace g1 := Lib.hid (g1.out.below HB.out (by omega))
  replace EB := Lib.hid (below_step HB.out EB.out (by omega))
  clear HB
  have va0l := Ba0.out.lt
  have va00 := (Ba0.out.2 0 _ rfl).1
  have va01 := (Ba0.out.2 1 _ rfl).1
  have va02 := (Ba0.out.2 2 _ rfl).1
  have va03 := (Ba0.out.2 3 _ rfl).1
  have va04 := (Ba0.out.2 4 _ rfl).1
  have va05 := (Ba0.out.2 5 _ rfl).1
  have vx0l := Bx0.out.lt
  have vx00 := (Bx0.out.2 0 _ rfl).1
  have vx01 := (Bx0.out.2 1 _ rfl).1
  have vx02 := (Bx0.out.2 2 _ rfl).1
  have vx03 := (Bx0.out.2 3 _ rfl).1
  have vx04 := (Bx0.out.2 4 _ rfl).1
  have vx05 := (Bx0.out.2 5 _ rfl).1
  go_wp2_with fail
  clear va0l va00 va01 va02 va03 va04 va05 vx0l vx00 vx01 vx02 vx03 vx04 vx05
  have EC := Lib.hid EB.out
  have xl := Ba0.out.lt
  have x0 := (Ba0.out.2 0 _ rfl).1
  have x1 := (Ba0.out.2 1 _ rfl).1
  have x2 := (Ba0.out.2 2 _ rfl).1
  have x3 := (Ba0.out.2 3 _ rfl).1
  have x4 := (Ba0.out.2 4 _ rfl).1
  have x5 := (Ba0.out.2 5 _ rfl).1
  have yl := Bx0.out.lt
  have y0 := (Bx0.out.2 0 _ rfl).1
  have y1 := (Bx0.out.2 1 _ rfl).1
  have y2 := (Bx0.out.2 2 _ rfl).1
  have y3 := (Bx0.out.2 3 _ rfl).1
  have y4 := (Bx0.out.2 4 _ rfl).1
  have y5 := (Bx0.out.2 5 _ rfl).1
  go_region_held3 (fun w' => (w'.cell? ⟨w.heap.size, 0, none⟩ = some (.slice A0 n0 c0) ∧ w'.cell? ⟨w.heap.size, 1, none⟩ = some (.int .i64 (p0)) ∧ w'.cell? ⟨w.heap.size, 2, none⟩ = some (.slice A0' n0' c0') ∧ w'.cell? ⟨w.heap.size, 3, none⟩ = some (.int .i64 (q0)) ∧ w'.cell? ⟨w.heap.size, 4, none⟩ = some (.slice E0 m0 d0) ∧ w'.cell? ⟨w.heap.size, 5, none⟩ = some (.int .i64 (yy0))) ∧ (w'.cell? ⟨w4.heap.size, 0, none⟩ = some (.slice Ax0 nx0 cx0) ∧ w'.cell? ⟨w4.heap.size, 1, none⟩ = some (.int .i64 (p0)) ∧ w'.cell? ⟨w4.heap.size, 2, none⟩ = some (.slice Ax0' nx0' cx0') ∧ w'.cell? ⟨w4.heap.size, 3, none⟩ = some (.int .i64 (q0)) ∧ w'.cell? ⟨w4.heap.size, 4, none⟩ = some (.slice Ex0 mx0 dx0) ∧ w'.cell? ⟨w4.heap.size, 5, none⟩ = some (.int .i64 (yy0)))) (go_keep)
    (first | (go_at_call 33; refine (toWriter_any a01.out.drew a02.out.drew a03.out.drew (by first | omega | (simp; omega) | (simp; done)) (by first | omega | (simp; omega) | (simp; done)) (by first | omega | (simp; omega) | (simp; done)) hn0 hn0' hm0 hp0 hq0 hy0).mono ?_; rintro e w8 ⟨Ak, nk, ck, Ak', nk', ck', Ek, mk, dk, rfl, ⟨_, _, _⟩, hb, ⟨⟨hd, hd', _, _, _⟩, hr, _, _, _⟩⟩; (try simp only [World.size_alloc, World.size_setCell, World.size_drew] at hb hd hd' hr); have HB := Lib.hid hb; have HK1 := Lib.hid hd; have HK2 := Lib.hid hd'; have HK3 := Lib.hid hr; have sa := hb.size; (try simp only [World.size_alloc, World.size_setCell, World.size_drew] at sa); have BA := Lib.hid (Ba0.out.drew.below hb (by omega)); have BX := Lib.hid (Bx0.out.drew.below hb (by omega)); clear hb hd hd' hr; have x0 := (BA.out.2 0 _ rfl).1; have x1 := (BA.out.2 1 _ rfl).1; have x2 := (BA.out.2 2 _ rfl).1; have x3 := (BA.out.2 3 _ rfl).1; have x4 := (BA.out.2 4 _ rfl).1; have x5 := (BA.out.2 5 _ rfl).1; have y0 := (BX.out.2 0 _ rfl).1; have y1 := (BX.out.2 1 _ rfl).1; have y2 := (BX.out.2 2 _ rfl).1; have y3 := (BX.out.2 3 _ rfl).1; have y4 := (BX.out.2 4 _ rfl).1; have y5 := (BX.out.2 5 _ rfl).1) | (go_at_call 35; refine (eqWriter_same (x01.out.drew.below HB.out (by omega)) (x02.out.drew.below HB.out (by omega)) (x03.out.drew.below HB.out (by omega)) HK1.out HK2.out HK3.out (by omega) (by omega) (by omega) (by omega) (by omega) (by omega)).mono ?_; rintro e w9 ⟨rfl, hb⟩; have HC := Lib.hid hb; have sb := hb.size; have CA := Lib.hid (BA.out.below hb (by omega)); have CX := Lib.hid (BX.out.below hb (by omega)); clear hb; have x0 := (CA.out.2 0 _ rfl).1; have x1 := (CA.out.2 1 _ rfl).1; have x2 := (CA.out.2 2 _ rfl).1; have x3 := (CA.out.2 3 _ rfl).1; have x4 := (CA.out.2 4 _ rfl).1; have x5 := (CA.out.2 5 _ rfl).1; have y0 := (CX.out.2 0 _ rfl).1; have y1 := (CX.out.2 1 _ rfl).1; have y2 := (CX.out.2 2 _ rfl).1; have y3 := (CX.out.2 3 _ rfl).1; have y4 := (CX.out.2 4 _ rfl).1; have y5 := (CX.out.2 5 _ rfl).1))
  have HD : Hid (Below w7.heap.size w7 w9) := below_step HC.out (below_step HB.out (Below.refl _ _).drew (by simp)) (by omega)
  have s9 := HD.out.size
  clear xl x0 x1 x2 x3 x4 x5 yl y0 y1 y2 y3 y4 y5
  replace a01 := Lib.hid (a01.out.below HD.out (by omega))
  replace a02 := Lib.hid (a02.out.below HD.out (by omega))
  replace a03 := Lib.hid (a03.out.below HD.out (by omega))
  replace Ba0 := Lib.hid (Ba0.out.below HD.out (by omega))
  replace u1 := Lib.hid (u1.out.below HD.out (by omega))
  replace x01 := Lib.hid (x01.out.below HD.out (by omega))
  replace x02 := Lib.hid (x02.out.below HD.out (by omega))
  replace x03 := Lib.hid (x03.out.below HD.out (by omega))
  replace Bx0 := Lib.hid (Bx0.out.below HD.out (by omega))
  replace g1 := Lib.hid (g1.out.below HD.out (by omega))
  replace EB := Lib.hid (below_step HD.out EB.out (by omega))
  clear HB HC HD HK1 HK2 HK3 BA BX CA CX
  have vx0l := Bx0.out.lt
  have vx00 := (Bx0.out.2 0 _ rfl).1
  have vx01 := (Bx0.out.2 1 _ rfl).1
  have vx02 := (Bx0.out.2 2 _ rfl).1
  have vx03 := (Bx0.out.2 3 _ rfl).1
  have vx04 := (Bx0.out.2 4 _ rfl).1
  have vx05 := (Bx0.out.2 5 _ rfl).1
  go_wp2_with fail
  refine (markWriter_any x01.out x02.out x03.out x0a.out x0b.out x0c.out (by omega) (by omega) (by omega) (by omega) (by omega) hx0 hx0' hx0'').mono ?_
  clear vx0l vx00 vx01 vx02 vx03 vx04 vx05
  rintro e w10 ⟨rfl, hm, hi0, hi1, hi2⟩
  have HM := Lib.hid hm
  have s10 := HM.out.size
  clear hm
  replace EB := Lib.hid (below_markR EB.out HM.out x01.out x02.out x03.out (by omega) (by omega) (by omega) (by omega))
  replace a01 := Lib.hid (a01.out.markR HM.out (by omega) (Apart.of_le a01.out x01.out (by omega)).symm (Apart.of_le a01.out x02.out (by omega)).symm (Apart.of_le a01.out x03.out (by omega)).symm)
  replace a02 := Lib.hid (a02.out.markR HM.out (by omega) (Apart.of_le a02.out x01.out (by omega)).symm (Apart.of_le a02.out x02.out (by omega)).symm (Apart.of_le a02.out x03.out (by omega)).symm)
  replace a03 := Lib.hid (a03.out.markR HM.out (by omega) (Apart.of_le a03.out x01.out (by omega)).symm (Apart.of_le a03.out x02.out (by omega)).symm (Apart.of_le a03.out x03.out (by omega)).symm)
  replace Ba0 := Lib.hid (Ba0.out.markR HM.out x01.out x02.out x03.out (by omega) (by omega) (by omega))
  replace u1 := Lib.hid (u1.out.markR HM.out (by omega) (Apart.of_le u1.out x01.out (by omega)).symm (Apart.of_le u1.out x02.out (by omega)).symm (Apart.of_le u1.out x03.out (by omega)).symm)
  replace Bx0 := Lib.hid (Bx0.out.markR HM.out x01.out x02.out x03.out (by omega) (by omega) (by omega))
  replace g1 := Lib.hid (g1.out.markR HM.out (by omega) (Apart.of_le x01.out g1.out (by omega)) (Apart.of_le x02.out g1.out (by omega)) (Apart.of_le x03.out g1.out (by omega)))
  replace x01 := Lib.hid hi0
  replace x02 := Lib.hid hi1
  replace x03 := Lib.hid hi2
  clear HM hi0 hi1 hi2
  clear x01 x02 x03 Bx0
  go_wp2_with fail
  refine (eqIntS_same g1.out u1.out).mono ?_
  rintro e w11 ⟨rfl, hb⟩
  (try simp only [World.size_alloc, World.size_setCell, World.size_drew] at hb)
  have HB := Lib.hid hb
  clear hb
  have s11 := HB.out.size
  (try simp only [World.size_alloc, World.size_setCell, World.size_drew] at s11)
  replace a01 := Lib.hid (a01.out.below HB.out (by omega))
  replace a02 := Lib.hid (a02.out.below HB.out (by omega))
  replace a03 := Lib.hid (a03.out.below HB.out (by omega))
  replace Ba0 := Lib.hid (Ba0.out.below HB.out (by omega))
  replace u1 := Lib.hid (u1.out.below HB.out (by omega))
  replace g1 := Lib.hid (g1.out.below HB.out (by omega))
  replace EB := Lib.hid (below_step HB.out EB.out (by omega))
  clear HB
  go_wp2_with fail
  refine (markIntS_any g1.out (by omega) (by omega) hl_g1).mono ?_
  rintro e w12 ⟨rfl, hm, hi0⟩
  have HM := Lib.hid hm
  have s12 := HM.out.size
  clear hm
  replace EB := Lib.hid (below_mark EB.out HM.out g1.out (by omega))
  replace a01 := Lib.hid (a01.out.mark HM.out (Apart.of_le a01.out g1.out (by omega)).symm)
  replace a02 := Lib.hid (a02.out.mark HM.out (Apart.of_le a02.out g1.out (by omega)).symm)
  replace a03 := Lib.hid (a03.out.mark HM.out (Apart.of_le a03.out g1.out (by omega)).symm)
  replace Ba0 := Lib.hid (Ba0.out.mark HM.out g1.out (by omega))
  replace u1 := Lib.hid (u1.out.mark HM.out (Apart.of_le u1.out g1.out (by omega)).symm)
  replace g1 := Lib.hid hi0
  clear HM hi0
  go_wp2_with fail
  refine (heldIntS_b g1.out (by omega) (by omega) hl_g1).mono ?_
  rintro e w13 ⟨rfl, hb⟩
  (try simp only [World.size_alloc, World.size_setCell, World.size_drew] at hb)
  have HB := Lib.hid hb
  clear hb
  have s13 := HB.out.size
  (try simp only [World.size_alloc, World.size_setCell, World.size_drew] at s13)
  replace a01 := Lib.hid (a01.out.below HB.out (by omega))
  replace a02 := Lib.hid (a02.out.below HB.out (by omega))
  replace a03 := Lib.hid (a03.out.below HB.out (by omega))
  replace Ba0 := Lib.hid (Ba0.out.below HB.out (by omega))
  replace u1 := Lib.hid (u1.out.below HB.out (by omega))
  replace g1 := Lib.hid (g1.out.below HB.out (by omega))
  replace EB := Lib.hid (below_step HB.out EB.out (by omega))
  clear HB
  have va0l := Ba0.out.lt
  have va00 := (Ba0.out.2 0 _ rfl).1
  have va01 := (Ba0.out.2 1 _ rfl).1
  have va02 := (Ba0.out.2 2 _ rfl).1
  have va03 := (Ba0.out.2 3 _ rfl).1
  have va04 := (Ba0.out.2 4 _ rfl).1
  have va05 := (Ba0.out.2 5 _ rfl).1
  go_wp2_with fail
  refine (toWriter_any a01.out a02.out a03.out (by omega) (by omega) (by omega) hn0 hn0' hm0 hp0 hq0 hy0).mono ?_
  clear va0l va00 va01 va02 va03 va04 va05
  rintro e w14 ⟨Ar0, nr0, cr0, Ar0', nr0', cr0', Er0, mr0, dr0, rfl, ⟨hcr0, hcr0', hcr0''⟩, hb, ⟨⟨hd, hd', ha, _, _⟩, hr, ha1, ha2, _⟩⟩
  (try simp only [World.size_alloc, World.size_setCell, World.size_drew] at hb)
  have HB := Lib.hid hb
  clear hb
  have s14 := HB.out.size
  (try simp only [World.size_alloc, World.size_setCell, World.size_drew] at s14)
  replace a01 := Lib.hid (a01.out.below HB.out (by omega))
  replace a02 := Lib.hid (a02.out.below HB.out (by omega))
  replace a03 := Lib.hid (a03.out.below HB.out (by omega))
  replace Ba0 := Lib.hid (Ba0.out.below HB.out (by omega))
  replace u1 := Lib.hid (u1.out.below HB.out (by omega))
  replace g1 := Lib.hid (g1.out.below HB.out (by omega))
  replace EB := Lib.hid (below_step HB.out EB.out (by omega))
  clear HB
  have r01 := Lib.hid hd
  have r02 := Lib.hid hd'
  have r03 := Lib.hid hr
  have r0a := Lib.hid ha
  have r0b := Lib.hid ha1
  have r0c := Lib.hid ha2
  clear hd hd' hr ha ha1 ha2
  have hr0 : nr0 ≤ 1048576 := by have := r01.out.len; have := HLa0.out; omega
  have hr0' : nr0' ≤ 1048576 := by have := r02.out.len; have := HLb0.out; omega
  have hr0'' : mr0 ≤ 1048576 := by have := r03.out.len; have := HLc0.out; omega
  go_wp2_with fail
  refine (SeenData_x r01.out r02.out r03.out (by omega) (by omega) (by omega) hcr0 hcr0' hcr0'' hr0 hr0' hr0'').mono ?_
  rintro e w15 ⟨Lh, mh, dh, rfl, _, hb, hl⟩
  (try simp only [World.size_alloc, World.size_setCell, World.size_drew] at hb)
  have HB := Lib.hid hb
  clear hb
  have s15 := HB.out.size
  (try simp only [World.size_alloc, World.size_setCell, World.size_drew] at s15)
  replace a01 := Lib.hid (a01.out.below HB.out (by omega))
  replace a02 := Lib.hid (a02.out.below HB.out (by omega))
  replace a03 := Lib.hid (a03.out.below HB.out (by omega))
  replace Ba0 := Lib.hid (Ba0.out.below HB.out (by omega))
  replace u1 := Lib.hid (u1.out.below HB.out (by omega))
  replace g1 := Lib.hid (g1.out.below HB.out (by omega))
  replace r01 := Lib.hid (r01.out.below HB.out (by omega))
  replace r02 := Lib.hid (r02.out.below HB.out (by omega))
  replace r03 := Lib.hid (r03.out.below HB.out (by omega))
  replace EB := Lib.hid (below_step HB.out EB.out (by omega))
  clear HB
  have h1 := Lib.hid hl
  clear hl
  obtain ⟨hx0⟩ := And.intro (seenOut_le D0 p0 S0 q0 R0 yy0) trivial
  have hl_h1 : mh ≤ 1048576 := by have := h1.out.len; omega
  clear hx0
  clear r01 r02 r03
  go_wp2_with fail
  refine (eqIntS_same h1.out u1.out).mono ?_
  rintro e w16 ⟨rfl, hb⟩
  (try simp only [World.size_alloc, World.size_setCell, World.size_drew] at hb)
  have HB := Lib.hid hb
  clear hb
  have s16 := HB.out.size
  (try simp only [World.size_alloc, World.size_setCell, World.size_drew] at s16)
  replace a01 := Lib.hid (a01.out.below HB.out (by omega))
  replace a02 := Lib.hid (a02.out.below HB.out (by omega))
  replace a03 := Lib.hid (a03.out.below HB.out (by omega))
  replace Ba0 := Lib.hid (Ba0.out.below HB.out (by omega))
  replace u1 := Lib.hid (u1.out.below HB.out (by omega))
  replace g1 := Lib.hid (g1.out.below HB.out (by omega))
  replace h1 := Lib.hid (h1.out.below HB.out (by omega))
  replace EB := Lib.hid (below_step HB.out EB.out (by omega))
  clear HB
  go_wp2_with fail
  refine (heldIntS_b g1.out (by omega) (by omega) hl_g1).mono ?_
  rintro e w17 ⟨rfl, hb⟩
  (try simp only [World.size_alloc, World.size_setCell, World.size_drew] at hb)
  have HB := Lib.hid hb
  clear hb
  have s17 := HB.out.size
  (try simp only [World.size_alloc, World.size_setCell, World.size_drew] at s17)
  replace a01 := Lib.hid (a01.out.below HB.out (by omega))
  replace a02 := Lib.hid (a02.out.below HB.out (by omega))
  replace a03 := Lib.hid (a03.out.below HB.out (by omega))
  replace Ba0 := Lib.hid (Ba0.out.below HB.out (by omega))
  replace u1 := Lib.hid (u1.out.below HB.out (by omega))
  replace g1 := Lib.hid (g1.out.below HB.out (by omega))
  replace h1 := Lib.hid (h1.out.below HB.out (by omega))
  replace EB := Lib.hid (below_step HB.out EB.out (by omega))
  clear HB
  go_wp2
  go_ret
  exact ⟨rfl, EB.out⟩

theorem contract (H : Type) (enc : TypeId × Value → H) (W : World) (base : Nat) (args : Array Value) (ds gs : List (DataW H)) (before : List MemPlace)
    (hval : ∀ (j : Nat) t v, Try.f5.params[j]? = some t → args[j]? = some v → Value.okWide Try.prog W .any base t v)
    (hW : DataW.Whole enc Try.prog Try.f5.params.toList Rows.fnExactSeenDataSpec.vars false W args.toList ds gs before) :
    Calls Try.prog 5 args W fun e W' => ∃ v, e = .returned v ∧ Rows.fnExactSeenDataSpec.post enc Try.prog Try.f5 false true false false W args v W' := by
  have hW' := hW
  have hlt : ∀ p ∈ before, p.block < W.heap.size := fun p hp => hW.lt p hp
  obtain ⟨p, q, hA0, hV, rfl, hfz, hnd⟩ := hW
  have hA : DataW.TrodAll enc Try.prog W 0 (fun _ => true) true Try.f5.params.toList args.toList ds p := hA0
  rw [Try.params5] at hA hval
  obtain ⟨v0, vs0, d0, ds0, p0, q0, hargs, rfl, rfl, h0, r0⟩ := trodAll_cons hA
  obtain ⟨rfl, rfl, rfl⟩ := trodAll_nil r0
  obtain rfl : args = #[v0] := by cases args; simp_all
  obtain ⟨rfl, rfl⟩ := trodVars_none hV
  obtain ⟨A, n, c, x, A', n', c', y, A2, n2, c2, u, D, S, R, rfl, hD0, hS0, hR0, hx0, hy0, hu0⟩ := arg_writer (hval 0 _ v0 rfl rfl) h0 (fun p hp => hlt p (by simp [hp])) (fun b o hp => hfz b o (by simp [hp]))
  refine (walk _ _ _ _ _ _ _ _ _ _ _ _ _ _ _ W hD0 hS0 hR0 hx0 hy0 hu0).mono fun e W' hh => ?_
  obtain ⟨rfl, hb⟩ := hh
  exact ⟨_, rfl, law_post laidOut (tys_of (by rw [Try.params5]; kernel_rfl)) hW' rfl rfl rfl Try.underlying4 hb⟩

set_option maxRecDepth 100000 in
theorem lifted (os : Os) (started : os.Started) (H : Type) (enc : TypeId × Value → H) :
    ReturnsInHanded {} Try.checked os 5 .any (Rows.fnExactSeenDataSpec.pre6 enc Try.prog Try.f5 Rows.fnExactSeenDataRow.domain false) (Rows.fnExactSeenDataSpec.post enc Try.prog Try.f5 false true false false) := by
  refine returnsInHanded_of_change (C := Try.checked) own started (by kernel_rfl) Try.func5
    (ChangeSpec.witness6 (C := Try.checked) false ⟨#[], #[.agg #[.slice none 0 0, .int .i64 0, .slice none 0 0, .int .i64 0, .slice none 0 0, .int .i64 0]], []⟩ 8 (by kernel_rfl) (by kernel_rfl) (by kernel_rfl) (by kernel_rfl)) ?_
  intro W base args ds gs before hval hW _ _
  exact contract H enc W base args ds gs before hval hW

theorem holds : Rows.FnExactSeenDataSaid :=
  OpenClaim.holds_of_wide 5 Try.f5 rfl rfl rfl rfl rfl rfl rfl ⟨rfl, rfl, rfl, rfl, rfl⟩ rfl rfl rfl rfl rfl (by kernel_rfl) Try.func5 (by kernel_rfl)
    (of_decide_eq_true (by kernel_rfl)) (by unfold Func.isWrapper; first | (rw [if_pos (by decide +kernel)]; kernel_rfl) | (rw [if_neg (by decide +kernel)]; exact ⟨rfl, rfl⟩))
    (fun os started H enc _ => lifted os started H enc)
end ExactSeenData
end Go.Proofs.Ytjiecnideghffaa
