/- The exact law of WriteLines: for all arguments the function answers as its model, and writes into none. -/
import Derived.Test.YtdiebkaedjlckaaDoorLawBase
import Derived.Test.YtdiebkaedjlckaaDoorL7
import Derived.Test.YtdiebkaedjlckaaDoorT5
import Derived.Test.YtdiebkaedjlckaaDoorER3
import Derived.Test.YtdiebkaedjlckaaDoorCards
import Derived.Test.YtdiebkaedjlckaaDoorTie
set_option maxRecDepth 10000
namespace Go.Proofs.YtdiebkaedjlckaaDoor
open Go.ChangeShapes Go.WideShapes Go.ChangeAt Go.RowKit
set_option linter.unusedSimpArgs false
set_option linter.unusedVariables false
namespace ExactWriteLines
set_option maxHeartbeats 16000000 in
theorem walk (A0 A0' E0 : Option Addr) (n0 c0 n0' c0' m0 d0 : Nat) (D0 S0 R0 : List Int) (p0 q0 yy0 : Int) (A1 : Option Addr) (n1 c1 : Nat) (D1 : List Int) (a0 a1 a2 : Addr) (w : World) (h0 : Ints w 0 w.heap.size A0 n0 D0) (h0' : Ints w 0 w.heap.size A0' n0' S0) (g0 : Ints w 0 w.heap.size E0 m0 R0) (hp0 : okInt p0) (hq0 : okInt q0) (hy0 : okInt yy0) (h1 : Ints w 0 w.heap.size A1 n1 D1) (HE : Errs w w.heap.size a0 a1 a2) :
    Calls Tryd.prog 4 #[.agg #[.slice A0 n0 c0, .int .i64 (p0), .slice A0' n0' c0', .int .i64 (q0), .slice E0 m0 d0, .int .i64 (yy0)], .slice A1 n1 c1] w (BoolB true w) := by
  have HLa0 := Lib.hid h0.len
  have HLb0 := Lib.hid h0'.len
  have HLc0 := Lib.hid g0.len
  have hm0 := h0.max
  have hm0' := h0'.max
  have hm0'' := g0.max
  have a01 := Lib.hid h0
  have a02 := Lib.hid h0'
  have a03 := Lib.hid g0
  clear h0 h0' g0
  have HLa1 := Lib.hid h1.len
  have hm1 := h1.max
  have a11 := Lib.hid h1
  clear h1
  have EB := Lib.hid (Below.refl w.heap.size w)
  replace a01 := Lib.hid (a01.out.alloc (Nat.le_refl _) (.cells #[.slice A0 n0 c0, .int .i64 (p0), .slice A0' n0' c0', .int .i64 (q0), .slice E0 m0 d0, .int .i64 (yy0)] 26))
  replace a02 := Lib.hid (a02.out.alloc (Nat.le_refl _) (.cells #[.slice A0 n0 c0, .int .i64 (p0), .slice A0' n0' c0', .int .i64 (q0), .slice E0 m0 d0, .int .i64 (yy0)] 26))
  replace a03 := Lib.hid (a03.out.alloc (Nat.le_refl _) (.cells #[.slice A0 n0 c0, .int .i64 (p0), .slice A0' n0' c0', .int .i64 (q0), .slice E0 m0 d0, .int .i64 (yy0)] 26))
  replace a11 := Lib.hid (a11.out.alloc (Nat.le_refl _) (.cells #[.slice A0 n0 c0, .int .i64 (p0), .slice A0' n0' c0', .int .i64 (q0), .slice E0 m0 d0, .int .i64 (yy0)] 26))
  replace EB := Lib.hid (EB.out.alloc (Nat.le_refl _) (.cells #[.slice A0 n0 c0, .int .i64 (p0), .slice A0' n0' c0', .int .i64 (q0), .slice E0 m0 d0, .int .i64 (yy0)] 26))
  have Ba0 := Lib.hid (Box.new w 26 [.slice A0 n0 c0, .int .i64 (p0), .slice A0' n0' c0', .int .i64 (q0), .slice E0 m0 d0, .int .i64 (yy0)])
  go_enter Tryd.func4, Tryd.ntmps4
  go_wp2_with fail
  · go_ret
    exact ⟨rfl, (by go_grown)⟩
  refine (szWriter_any hm0 hm0' hm0'' (by omega) (by omega)).mono ?_
  rintro e w1 ⟨r, rfl, hr, hb⟩
  (try simp only [World.size_alloc, World.size_setCell, World.size_drew] at hb)
  have HB := Lib.hid hb
  clear hb
  have s1 := HB.out.size
  (try simp only [World.size_alloc, World.size_setCell, World.size_drew] at s1)
  replace a01 := Lib.hid (a01.out.below HB.out (by omega))
  replace a02 := Lib.hid (a02.out.below HB.out (by omega))
  replace a03 := Lib.hid (a03.out.below HB.out (by omega))
  replace a11 := Lib.hid (a11.out.below HB.out (by omega))
  replace Ba0 := Lib.hid (Ba0.out.below HB.out (by omega))
  replace EB := Lib.hid (below_step HB.out EB.out (by omega))
  clear HB
  have va0l := Ba0.out.lt
  have va00 := (Ba0.out.2 0 _ rfl).1
  have va01 := (Ba0.out.2 1 _ rfl).1
  have va02 := (Ba0.out.2 2 _ rfl).1
  have va03 := (Ba0.out.2 3 _ rfl).1
  have va04 := (Ba0.out.2 4 _ rfl).1
  have va05 := (Ba0.out.2 5 _ rfl).1
  go_wp2_with fail
  · go_ret
    exact ⟨rfl, EB.out⟩
  have hn0 : n0 ≤ 1048576 := by omega
  have hn0' : n0' ≤ 1048576 := by omega
  have hm0 : m0 ≤ 1048576 := by omega
  have hn1 : n1 ≤ 1048576 := by omega
  clear hr
  refine (toWriter_any a01.out a02.out a03.out (by omega) (by omega) (by omega) hn0 hn0' hm0 hp0 hq0 hy0).mono ?_
  clear va0l va00 va01 va02 va03 va04 va05
  rintro e w2 ⟨At0, nt0, ct0, At0', nt0', ct0', Et0, mt0, dt0, rfl, ⟨hct0, hct0', hct0''⟩, hb, ⟨⟨hd, hd', ha, _, _⟩, hr, ha1, ha2, _⟩⟩
  (try simp only [World.size_alloc, World.size_setCell, World.size_drew] at hb)
  have HB := Lib.hid hb
  clear hb
  have s2 := HB.out.size
  (try simp only [World.size_alloc, World.size_setCell, World.size_drew] at s2)
  replace a01 := Lib.hid (a01.out.below HB.out (by omega))
  replace a02 := Lib.hid (a02.out.below HB.out (by omega))
  replace a03 := Lib.hid (a03.out.below HB.out (by omega))
  replace a11 := Lib.hid (a11.out.below HB.out (by omega))
  replace Ba0 := Lib.hid (Ba0.out.below HB.out (by omega))
  replace EB := Lib.hid (below_step HB.out EB.out (by omega))
  clear HB
  have t01 := Lib.hid hd
  have t02 := Lib.hid hd'
  have t03 := Lib.hid hr
  have t0a := Lib.hid ha
  have t0b := Lib.hid ha1
  have t0c := Lib.hid ha2
  clear hd hd' hr ha ha1 ha2
  have ht0 : nt0 ≤ 1048576 := by have := t01.out.len; have := HLa0.out; omega
  have ht0' : nt0' ≤ 1048576 := by have := t02.out.len; have := HLb0.out; omega
  have ht0'' : mt0 ≤ 1048576 := by have := t03.out.len; have := HLc0.out; omega
  go_wp2_with fail
  refine (toIntS_b a11.out (by omega) hn1).mono ?_
  rintro e w3 ⟨At1, ct1, rfl, hct1, hb, hd⟩
  (try simp only [World.size_alloc, World.size_setCell, World.size_drew] at hb)
  have HB := Lib.hid hb
  clear hb
  have s3 := HB.out.size
  (try simp only [World.size_alloc, World.size_setCell, World.size_drew] at s3)
  replace a01 := Lib.hid (a01.out.below HB.out (by omega))
  replace a02 := Lib.hid (a02.out.below HB.out (by omega))
  replace a03 := Lib.hid (a03.out.below HB.out (by omega))
  replace a11 := Lib.hid (a11.out.below HB.out (by omega))
  replace Ba0 := Lib.hid (Ba0.out.below HB.out (by omega))
  replace t01 := Lib.hid (t01.out.below HB.out (by omega))
  replace t02 := Lib.hid (t02.out.below HB.out (by omega))
  replace t03 := Lib.hid (t03.out.below HB.out (by omega))
  replace EB := Lib.hid (below_step HB.out EB.out (by omega))
  clear HB
  have t11 := Lib.hid hd
  clear hd
  go_wp2_with fail
  refine (SWriteLines_x t01.out t02.out t03.out t11.out (by omega) (by omega) (by omega) (by omega) hct0 hct0' hct0'' hct1 ht0 ht0' ht0'' hn1).mono ?_
  rintro e w4 ⟨Au, nu, cu, Au', nu', cu', Eu, mu, du, rfl, ⟨_, _, _⟩, hb, ⟨⟨hd, hd', ha, _, _⟩, hr, ha1, ha2, _⟩⟩
  (try simp only [World.size_alloc, World.size_setCell, World.size_drew] at hb)
  have HB := Lib.hid hb
  clear hb
  have s4 := HB.out.size
  (try simp only [World.size_alloc, World.size_setCell, World.size_drew] at s4)
  replace a01 := Lib.hid (a01.out.below HB.out (by omega))
  replace a02 := Lib.hid (a02.out.below HB.out (by omega))
  replace a03 := Lib.hid (a03.out.below HB.out (by omega))
  replace a11 := Lib.hid (a11.out.below HB.out (by omega))
  replace Ba0 := Lib.hid (Ba0.out.below HB.out (by omega))
  replace t01 := Lib.hid (t01.out.below HB.out (by omega))
  replace t02 := Lib.hid (t02.out.below HB.out (by omega))
  replace t03 := Lib.hid (t03.out.below HB.out (by omega))
  replace t11 := Lib.hid (t11.out.below HB.out (by omega))
  replace EB := Lib.hid (below_step HB.out EB.out (by omega))
  clear HB
  have u1 := Lib.hid hd
  have u2 := Lib.hid hd'
  have u3 := Lib.hid hr
  clear hd hd' hr
  have u1_u2 := Lib.hid ha
  clear ha
  have u3_u1 := Lib.hid ha1
  clear ha1
  have u3_u2 := Lib.hid ha2
  clear ha2
  obtain ⟨hx0, hx1, hx2⟩ := wbOut_le D0 p0 S0 q0 R0 yy0 10 D1
  have hl_u1 : nu ≤ 1048576 := by have := u1.out.len; omega
  have hl_u2 : nu' ≤ 1048576 := by have := u2.out.len; omega
  have hl_u3 : mu ≤ 1048576 := by have := u3.out.len; omega
  clear hx0 hx1 hx2
  clear t01 t02 t03 t11
  have va0l := Ba0.out.lt
  have va00 := (Ba0.out.2 0 _ rfl).1
  have va01 := (Ba0.out.2 1 _ rfl).1
  have va02 := (Ba0.out.2 2 _ rfl).1
  have va03 := (Ba0.out.2 3 _ rfl).1
  have va04 := (Ba0.out.2 4 _ rfl).1
  have va05 := (Ba0.out.2 5 _ rfl).1
  go_wp2_with fail
  clear va0l va00 va01 va02 va03 va04 va05
  replace a01 := Lib.hid (a01.out.alloc (by omega) (.cells #[.slice Au nu cu, .int .i64 ((wbOut D0 p0 S0 q0 R0 yy0 10 D1).1.p), .slice Au' nu' cu', .int .i64 ((wbOut D0 p0 S0 q0 R0 yy0 10 D1).1.q), .slice Eu mu du, .int .i64 ((wbOut D0 p0 S0 q0 R0 yy0 10 D1).1.z)] 30))
  replace a02 := Lib.hid (a02.out.alloc (by omega) (.cells #[.slice Au nu cu, .int .i64 ((wbOut D0 p0 S0 q0 R0 yy0 10 D1).1.p), .slice Au' nu' cu', .int .i64 ((wbOut D0 p0 S0 q0 R0 yy0 10 D1).1.q), .slice Eu mu du, .int .i64 ((wbOut D0 p0 S0 q0 R0 yy0 10 D1).1.z)] 30))
  replace a03 := Lib.hid (a03.out.alloc (by omega) (.cells #[.slice Au nu cu, .int .i64 ((wbOut D0 p0 S0 q0 R0 yy0 10 D1).1.p), .slice Au' nu' cu', .int .i64 ((wbOut D0 p0 S0 q0 R0 yy0 10 D1).1.q), .slice Eu mu du, .int .i64 ((wbOut D0 p0 S0 q0 R0 yy0 10 D1).1.z)] 30))
  replace a11 := Lib.hid (a11.out.alloc (by omega) (.cells #[.slice Au nu cu, .int .i64 ((wbOut D0 p0 S0 q0 R0 yy0 10 D1).1.p), .slice Au' nu' cu', .int .i64 ((wbOut D0 p0 S0 q0 R0 yy0 10 D1).1.q), .slice Eu mu du, .int .i64 ((wbOut D0 p0 S0 q0 R0 yy0 10 D1).1.z)] 30))
  replace Ba0 := Lib.hid (Ba0.out.alloc (.cells #[.slice Au nu cu, .int .i64 ((wbOut D0 p0 S0 q0 R0 yy0 10 D1).1.p), .slice Au' nu' cu', .int .i64 ((wbOut D0 p0 S0 q0 R0 yy0 10 D1).1.q), .slice Eu mu du, .int .i64 ((wbOut D0 p0 S0 q0 R0 yy0 10 D1).1.z)] 30))
  replace u1 := Lib.hid (u1.out.alloc (by omega) (.cells #[.slice Au nu cu, .int .i64 ((wbOut D0 p0 S0 q0 R0 yy0 10 D1).1.p), .slice Au' nu' cu', .int .i64 ((wbOut D0 p0 S0 q0 R0 yy0 10 D1).1.q), .slice Eu mu du, .int .i64 ((wbOut D0 p0 S0 q0 R0 yy0 10 D1).1.z)] 30))
  replace u2 := Lib.hid (u2.out.alloc (by omega) (.cells #[.slice Au nu cu, .int .i64 ((wbOut D0 p0 S0 q0 R0 yy0 10 D1).1.p), .slice Au' nu' cu', .int .i64 ((wbOut D0 p0 S0 q0 R0 yy0 10 D1).1.q), .slice Eu mu du, .int .i64 ((wbOut D0 p0 S0 q0 R0 yy0 10 D1).1.z)] 30))
  replace u3 := Lib.hid (u3.out.alloc (by omega) (.cells #[.slice Au nu cu, .int .i64 ((wbOut D0 p0 S0 q0 R0 yy0 10 D1).1.p), .slice Au' nu' cu', .int .i64 ((wbOut D0 p0 S0 q0 R0 yy0 10 D1).1.q), .slice Eu mu du, .int .i64 ((wbOut D0 p0 S0 q0 R0 yy0 10 D1).1.z)] 30))
  replace EB := Lib.hid (EB.out.alloc (by omega) (.cells #[.slice Au nu cu, .int .i64 ((wbOut D0 p0 S0 q0 R0 yy0 10 D1).1.p), .slice Au' nu' cu', .int .i64 ((wbOut D0 p0 S0 q0 R0 yy0 10 D1).1.q), .slice Eu mu du, .int .i64 ((wbOut D0 p0 S0 q0 R0 yy0 10 D1).1.z)] 30))
  have Bu := Lib.hid (Box.new w4 30 [.slice Au nu cu, .int .i64 ((wbOut D0 p0 S0 q0 R0 yy0 10 D1).1.p), .slice Au' nu' cu', .int .i64 ((wbOut D0 p0 S0 q0 R0 yy0 10 D1).1.q), .slice Eu mu du, .int .i64 ((wbOut D0 p0 S0 q0 R0 yy0 10 D1).1.z)])
  have s5 : w4.heap.size + 1 ≤ (w4.alloc (.cells #[.slice Au nu cu, .int .i64 ((wbOut D0 p0 S0 q0 R0 yy0 10 D1).1.p), .slice Au' nu' cu', .int .i64 ((wbOut D0 p0 S0 q0 R0 yy0 10 D1).1.q), .slice Eu mu du, .int .i64 ((wbOut D0 p0 S0 q0 R0 yy0 10 D1).1.z)] 30)).heap.size := by simp
  generalize w4.alloc (.cells #[.slice Au nu cu, .int .i64 ((wbOut D0 p0 S0 q0 R0 yy0 10 D1).1.p), .slice Au' nu' cu', .int .i64 ((wbOut D0 p0 S0 q0 R0 yy0 10 D1).1.q), .slice Eu mu du, .int .i64 ((wbOut D0 p0 S0 q0 R0 yy0 10 D1).1.z)] 30) = w5 at *
  refine (toWriter_any a01.out a02.out a03.out (by omega) (by omega) (by omega) hn0 hn0' hm0 hp0 hq0 hy0).mono ?_
  rintro e w6 ⟨Ax0, nx0, cx0, Ax0', nx0', cx0', Ex0, mx0, dx0, rfl, ⟨hcx0, hcx0', hcx0''⟩, hb, ⟨⟨hd, hd', ha, _, _⟩, hr, ha1, ha2, _⟩⟩
  (try simp only [World.size_alloc, World.size_setCell, World.size_drew] at hb)
  have HB := Lib.hid hb
  clear hb
  have s6 := HB.out.size
  (try simp only [World.size_alloc, World.size_setCell, World.size_drew] at s6)
  replace a01 := Lib.hid (a01.out.below HB.out (by omega))
  replace a02 := Lib.hid (a02.out.below HB.out (by omega))
  replace a03 := Lib.hid (a03.out.below HB.out (by omega))
  replace a11 := Lib.hid (a11.out.below HB.out (by omega))
  replace Ba0 := Lib.hid (Ba0.out.below HB.out (by omega))
  replace u1 := Lib.hid (u1.out.below HB.out (by omega))
  replace u2 := Lib.hid (u2.out.below HB.out (by omega))
  replace u3 := Lib.hid (u3.out.below HB.out (by omega))
  replace Bu := Lib.hid (Bu.out.below HB.out (by omega))
  replace EB := Lib.hid (below_step HB.out EB.out (by omega))
  clear HB
  have x01 := Lib.hid hd
  have x02 := Lib.hid hd'
  have x03 := Lib.hid hr
  have x0a := Lib.hid ha
  have x0b := Lib.hid ha1
  have x0c := Lib.hid ha2
  clear hd hd' hr ha ha1 ha2
  have hx0 : nx0 ≤ 1048576 := by have := x01.out.len; have := HLa0.out; omega
  have hx0' : nx0' ≤ 1048576 := by have := x02.out.len; have := HLb0.out; omega
  have hx0'' : mx0 ≤ 1048576 := by have := x03.out.len; have := HLc0.out; omega
  go_wp2_with fail
  replace a01 := Lib.hid (a01.out.alloc (by omega) (.cells #[.slice Ax0 nx0 cx0, .int .i64 (p0), .slice Ax0' nx0' cx0', .int .i64 (q0), .slice Ex0 mx0 dx0, .int .i64 (yy0)] 30))
  replace a02 := Lib.hid (a02.out.alloc (by omega) (.cells #[.slice Ax0 nx0 cx0, .int .i64 (p0), .slice Ax0' nx0' cx0', .int .i64 (q0), .slice Ex0 mx0 dx0, .int .i64 (yy0)] 30))
  replace a03 := Lib.hid (a03.out.alloc (by omega) (.cells #[.slice Ax0 nx0 cx0, .int .i64 (p0), .slice Ax0' nx0' cx0', .int .i64 (q0), .slice Ex0 mx0 dx0, .int .i64 (yy0)] 30))
  replace a11 := Lib.hid (a11.out.alloc (by omega) (.cells #[.slice Ax0 nx0 cx0, .int .i64 (p0), .slice Ax0' nx0' cx0', .int .i64 (q0), .slice Ex0 mx0 dx0, .int .i64 (yy0)] 30))
  replace Ba0 := Lib.hid (Ba0.out.alloc (.cells #[.slice Ax0 nx0 cx0, .int .i64 (p0), .slice Ax0' nx0' cx0', .int .i64 (q0), .slice Ex0 mx0 dx0, .int .i64 (yy0)] 30))
  replace u1 := Lib.hid (u1.out.alloc (by omega) (.cells #[.slice Ax0 nx0 cx0, .int .i64 (p0), .slice Ax0' nx0' cx0', .int .i64 (q0), .slice Ex0 mx0 dx0, .int .i64 (yy0)] 30))
  replace u2 := Lib.hid (u2.out.alloc (by omega) (.cells #[.slice Ax0 nx0 cx0, .int .i64 (p0), .slice Ax0' nx0' cx0', .int .i64 (q0), .slice Ex0 mx0 dx0, .int .i64 (yy0)] 30))
  replace u3 := Lib.hid (u3.out.alloc (by omega) (.cells #[.slice Ax0 nx0 cx0, .int .i64 (p0), .slice Ax0' nx0' cx0', .int .i64 (q0), .slice Ex0 mx0 dx0, .int .i64 (yy0)] 30))
  replace Bu := Lib.hid (Bu.out.alloc (.cells #[.slice Ax0 nx0 cx0, .int .i64 (p0), .slice Ax0' nx0' cx0', .int .i64 (q0), .slice Ex0 mx0 dx0, .int .i64 (yy0)] 30))
  replace x01 := Lib.hid (x01.out.alloc (by omega) (.cells #[.slice Ax0 nx0 cx0, .int .i64 (p0), .slice Ax0' nx0' cx0', .int .i64 (q0), .slice Ex0 mx0 dx0, .int .i64 (yy0)] 30))
  replace x02 := Lib.hid (x02.out.alloc (by omega) (.cells #[.slice Ax0 nx0 cx0, .int .i64 (p0), .slice Ax0' nx0' cx0', .int .i64 (q0), .slice Ex0 mx0 dx0, .int .i64 (yy0)] 30))
  replace x03 := Lib.hid (x03.out.alloc (by omega) (.cells #[.slice Ax0 nx0 cx0, .int .i64 (p0), .slice Ax0' nx0' cx0', .int .i64 (q0), .slice Ex0 mx0 dx0, .int .i64 (yy0)] 30))
  replace EB := Lib.hid (EB.out.alloc (by omega) (.cells #[.slice Ax0 nx0 cx0, .int .i64 (p0), .slice Ax0' nx0' cx0', .int .i64 (q0), .slice Ex0 mx0 dx0, .int .i64 (yy0)] 30))
  have Bx0 := Lib.hid (Box.new w6 30 [.slice Ax0 nx0 cx0, .int .i64 (p0), .slice Ax0' nx0' cx0', .int .i64 (q0), .slice Ex0 mx0 dx0, .int .i64 (yy0)])
  have s7 : w6.heap.size + 1 ≤ (w6.alloc (.cells #[.slice Ax0 nx0 cx0, .int .i64 (p0), .slice Ax0' nx0' cx0', .int .i64 (q0), .slice Ex0 mx0 dx0, .int .i64 (yy0)] 30)).heap.size := by simp
  generalize w6.alloc (.cells #[.slice Ax0 nx0 cx0, .int .i64 (p0), .slice Ax0' nx0' cx0', .int .i64 (q0), .slice Ex0 mx0 dx0, .int .i64 (yy0)] 30) = w7 at *
  refine (toIntS_b a11.out (by omega) hn1).mono ?_
  rintro e w8 ⟨Ax1, cx1, rfl, hcx1, hb, hd⟩
  (try simp only [World.size_alloc, World.size_setCell, World.size_drew] at hb)
  have HB := Lib.hid hb
  clear hb
  have s8 := HB.out.size
  (try simp only [World.size_alloc, World.size_setCell, World.size_drew] at s8)
  replace a01 := Lib.hid (a01.out.below HB.out (by omega))
  replace a02 := Lib.hid (a02.out.below HB.out (by omega))
  replace a03 := Lib.hid (a03.out.below HB.out (by omega))
  replace a11 := Lib.hid (a11.out.below HB.out (by omega))
  replace Ba0 := Lib.hid (Ba0.out.below HB.out (by omega))
  replace u1 := Lib.hid (u1.out.below HB.out (by omega))
  replace u2 := Lib.hid (u2.out.below HB.out (by omega))
  replace u3 := Lib.hid (u3.out.below HB.out (by omega))
  replace Bu := Lib.hid (Bu.out.below HB.out (by omega))
  replace x01 := Lib.hid (x01.out.below HB.out (by omega))
  replace x02 := Lib.hid (x02.out.below HB.out (by omega))
  replace x03 := Lib.hid (x03.out.below HB.out (by omega))
  replace Bx0 := Lib.hid (Bx0.out.below HB.out (by omega))
  replace EB := Lib.hid (below_step HB.out EB.out (by omega))
  clear HB
  have x11 := Lib.hid hd
  clear hd
  have vx0l := Bx0.out.lt
  have vx00 := (Bx0.out.2 0 _ rfl).1
  have vx01 := (Bx0.out.2 1 _ rfl).1
  have vx02 := (Bx0.out.2 2 _ rfl).1
  have vx03 := (Bx0.out.2 3 _ rfl).1
  have vx04 := (Bx0.out.2 4 _ rfl).1
  have vx05 := (Bx0.out.2 5 _ rfl).1
  go_wp2_with fail
  refine (WriteLines_x (HE.below EB.out (Nat.le_refl _)) EB.out.size x01.out x02.out x03.out x11.out (by omega) (by omega) (by omega) (by omega) hcx0 hcx0' hcx0'' hcx1 hx0 hx0' hx0'' hn1).mono ?_
  clear vx0l vx00 vx01 vx02 vx03 vx04 vx05
  rintro e w9 ⟨Ag, ng, cg, Ag', ng', cg', Eg, mg, dg, rfl, ⟨_, _, _⟩, hb, ⟨⟨hd, hd', ha, _, _⟩, hr, ha1, ha2, _⟩⟩
  (try simp only [World.size_alloc, World.size_setCell, World.size_drew] at hb)
  have HB := Lib.hid hb
  clear hb
  have s9 := HB.out.size
  (try simp only [World.size_alloc, World.size_setCell, World.size_drew] at s9)
  replace a01 := Lib.hid (a01.out.below HB.out (by omega))
  replace a02 := Lib.hid (a02.out.below HB.out (by omega))
  replace a03 := Lib.hid (a03.out.below HB.out (by omega))
  replace a11 := Lib.hid (a11.out.below HB.out (by omega))
  replace Ba0 := Lib.hid (Ba0.out.below HB.out (by omega))
  replace u1 := Lib.hid (u1.out.below HB.out (by omega))
  replace u2 := Lib.hid (u2.out.below HB.out (by omega))
  replace u3 := Lib.hid (u3.out.below HB.out (by omega))
  replace Bu := Lib.hid (Bu.out.below HB.out (by omega))
  replace x01 := Lib.hid (x01.out.below HB.out (by omega))
  replace x02 := Lib.hid (x02.out.below HB.out (by omega))
  replace x03 := Lib.hid (x03.out.below HB.out (by omega))
  replace Bx0 := Lib.hid (Bx0.out.below HB.out (by omega))
  replace x11 := Lib.hid (x11.out.below HB.out (by omega))
  replace EB := Lib.hid (below_step HB.out EB.out (by omega))
  clear HB
  have g1 := Lib.hid hd
  have g2 := Lib.hid hd'
  have g3 := Lib.hid hr
  clear hd hd' hr
  have g1_g2 := Lib.hid ha
  clear ha
  have g3_g1 := Lib.hid ha1
  clear ha1
  have g3_g2 := Lib.hid ha2
  clear ha2
  obtain ⟨hx0, hx1, hx2⟩ := wbOut_le D0 p0 S0 q0 R0 yy0 10 D1
  have hl_g1 : ng ≤ 1048576 := by have := g1.out.len; omega
  have hl_g2 : ng' ≤ 1048576 := by have := g2.out.len; omega
  have hl_g3 : mg ≤ 1048576 := by have := g3.out.len; omega
  clear hx0 hx1 hx2
  have vul := Bu.out.lt
  have vu0 := (Bu.out.2 0 _ rfl).1
  have vu1 := (Bu.out.2 1 _ rfl).1
  have vu2 := (Bu.out.2 2 _ rfl).1
  have vu3 := (Bu.out.2 3 _ rfl).1
  have vu4 := (Bu.out.2 4 _ rfl).1
  have vu5 := (Bu.out.2 5 _ rfl).1
  go_wp2_with fail
  clear vul vu0 vu1 vu2 vu3 vu4 vu5
  replace a01 := Lib.hid (a01.out.alloc (by omega) (.cells #[.slice Ag ng cg, .int .i64 ((wbOut D0 p0 S0 q0 R0 yy0 10 D1).1.p), .slice Ag' ng' cg', .int .i64 ((wbOut D0 p0 S0 q0 R0 yy0 10 D1).1.q), .slice Eg mg dg, .int .i64 ((wbOut D0 p0 S0 q0 R0 yy0 10 D1).1.z)] 30))
  replace a02 := Lib.hid (a02.out.alloc (by omega) (.cells #[.slice Ag ng cg, .int .i64 ((wbOut D0 p0 S0 q0 R0 yy0 10 D1).1.p), .slice Ag' ng' cg', .int .i64 ((wbOut D0 p0 S0 q0 R0 yy0 10 D1).1.q), .slice Eg mg dg, .int .i64 ((wbOut D0 p0 S0 q0 R0 yy0 10 D1).1.z)] 30))
  replace a03 := Lib.hid (a03.out.alloc (by omega) (.cells #[.slice Ag ng cg, .int .i64 ((wbOut D0 p0 S0 q0 R0 yy0 10 D1).1.p), .slice Ag' ng' cg', .int .i64 ((wbOut D0 p0 S0 q0 R0 yy0 10 D1).1.q), .slice Eg mg dg, .int .i64 ((wbOut D0 p0 S0 q0 R0 yy0 10 D1).1.z)] 30))
  replace a11 := Lib.hid (a11.out.alloc (by omega) (.cells #[.slice Ag ng cg, .int .i64 ((wbOut D0 p0 S0 q0 R0 yy0 10 D1).1.p), .slice Ag' ng' cg', .int .i64 ((wbOut D0 p0 S0 q0 R0 yy0 10 D1).1.q), .slice Eg mg dg, .int .i64 ((wbOut D0 p0 S0 q0 R0 yy0 10 D1).1.z)] 30))
  replace Ba0 := Lib.hid (Ba0.out.alloc (.cells #[.slice Ag ng cg, .int .i64 ((wbOut D0 p0 S0 q0 R0 yy0 10 D1).1.p), .slice Ag' ng' cg', .int .i64 ((wbOut D0 p0 S0 q0 R0 yy0 10 D1).1.q), .slice Eg mg dg, .int .i64 ((wbOut D0 p0 S0 q0 R0 yy0 10 D1).1.z)] 30))
  replace u1 := Lib.hid (u1.out.alloc (by omega) (.cells #[.slice Ag ng cg, .int .i64 ((wbOut D0 p0 S0 q0 R0 yy0 10 D1).1.p), .slice Ag' ng' cg', .int .i64 ((wbOut D0 p0 S0 q0 R0 yy0 10 D1).1.q), .slice Eg mg dg, .int .i64 ((wbOut D0 p0 S0 q0 R0 yy0 10 D1).1.z)] 30))
  replace u2 := Lib.hid (u2.out.alloc (by omega) (.cells #[.slice Ag ng cg, .int .i64 ((wbOut D0 p0 S0 q0 R0 yy0 10 D1).1.p), .slice Ag' ng' cg', .int .i64 ((wbOut D0 p0 S0 q0 R0 yy0 10 D1).1.q), .slice Eg mg dg, .int .i64 ((wbOut D0 p0 S0 q0 R0 yy0 10 D1).1.z)] 30))
  replace u3 := Lib.hid (u3.out.alloc (by omega) (.cells #[.slice Ag ng cg, .int .i64 ((wbOut D0 p0 S0 q0 R0 yy0 10 D1).1.p), .slice Ag' ng' cg', .int .i64 ((wbOut D0 p0 S0 q0 R0 yy0 10 D1).1.q), .slice Eg mg dg, .int .i64 ((wbOut D0 p0 S0 q0 R0 yy0 10 D1).1.z)] 30))
  replace Bu := Lib.hid (Bu.out.alloc (.cells #[.slice Ag ng cg, .int .i64 ((wbOut D0 p0 S0 q0 R0 yy0 10 D1).1.p), .slice Ag' ng' cg', .int .i64 ((wbOut D0 p0 S0 q0 R0 yy0 10 D1).1.q), .slice Eg mg dg, .int .i64 ((wbOut D0 p0 S0 q0 R0 yy0 10 D1).1.z)] 30))
  replace x01 := Lib.hid (x01.out.alloc (by omega) (.cells #[.slice Ag ng cg, .int .i64 ((wbOut D0 p0 S0 q0 R0 yy0 10 D1).1.p), .slice Ag' ng' cg', .int .i64 ((wbOut D0 p0 S0 q0 R0 yy0 10 D1).1.q), .slice Eg mg dg, .int .i64 ((wbOut D0 p0 S0 q0 R0 yy0 10 D1).1.z)] 30))
  replace x02 := Lib.hid (x02.out.alloc (by omega) (.cells #[.slice Ag ng cg, .int .i64 ((wbOut D0 p0 S0 q0 R0 yy0 10 D1).1.p), .slice Ag' ng' cg', .int .i64 ((wbOut D0 p0 S0 q0 R0 yy0 10 D1).1.q), .slice Eg mg dg, .int .i64 ((wbOut D0 p0 S0 q0 R0 yy0 10 D1).1.z)] 30))
  replace x03 := Lib.hid (x03.out.alloc (by omega) (.cells #[.slice Ag ng cg, .int .i64 ((wbOut D0 p0 S0 q0 R0 yy0 10 D1).1.p), .slice Ag' ng' cg', .int .i64 ((wbOut D0 p0 S0 q0 R0 yy0 10 D1).1.q), .slice Eg mg dg, .int .i64 ((wbOut D0 p0 S0 q0 R0 yy0 10 D1).1.z)] 30))
  replace Bx0 := Lib.hid (Bx0.out.alloc (.cells #[.slice Ag ng cg, .int .i64 ((wbOut D0 p0 S0 q0 R0 yy0 10 D1).1.p), .slice Ag' ng' cg', .int .i64 ((wbOut D0 p0 S0 q0 R0 yy0 10 D1).1.q), .slice Eg mg dg, .int .i64 ((wbOut D0 p0 S0 q0 R0 yy0 10 D1).1.z)] 30))
  replace x11 := Lib.hid (x11.out.alloc (by omega) (.cells #[.slice Ag ng cg, .int .i64 ((wbOut D0 p0 S0 q0 R0 yy0 10 D1).1.p), .slice Ag' ng' cg', .int .i64 ((wbOut D0 p0 S0 q0 R0 yy0 10 D1).1.q), .slice Eg mg dg, .int .i64 ((wbOut D0 p0 S0 q0 R0 yy0 10 D1).1.z)] 30))
  replace g1 := Lib.hid (g1.out.alloc (by omega) (.cells #[.slice Ag ng cg, .int .i64 ((wbOut D0 p0 S0 q0 R0 yy0 10 D1).1.p), .slice Ag' ng' cg', .int .i64 ((wbOut D0 p0 S0 q0 R0 yy0 10 D1).1.q), .slice Eg mg dg, .int .i64 ((wbOut D0 p0 S0 q0 R0 yy0 10 D1).1.z)] 30))
  replace g2 := Lib.hid (g2.out.alloc (by omega) (.cells #[.slice Ag ng cg, .int .i64 ((wbOut D0 p0 S0 q0 R0 yy0 10 D1).1.p), .slice Ag' ng' cg', .int .i64 ((wbOut D0 p0 S0 q0 R0 yy0 10 D1).1.q), .slice Eg mg dg, .int .i64 ((wbOut D0 p0 S0 q0 R0 yy0 10 D1).1.z)] 30))
  replace g3 := Lib.hid (g3.out.alloc (by omega) (.cells #[.slice Ag ng cg, .int .i64 ((wbOut D0 p0 S0 q0 R0 yy0 10 D1).1.p), .slice Ag' ng' cg', .int .i64 ((wbOut D0 p0 S0 q0 R0 yy0 10 D1).1.q), .slice Eg mg dg, .int .i64 ((wbOut D0 p0 S0 q0 R0 yy0 10 D1).1.z)] 30))
  replace EB := Lib.hid (EB.out.alloc (by omega) (.cells #[.slice Ag ng cg, .int .i64 ((wbOut D0 p0 S0 q0 R0 yy0 10 D1).1.p), .slice Ag' ng' cg', .int .i64 ((wbOut D0 p0 S0 q0 R0 yy0 10 D1).1.q), .slice Eg mg dg, .int .i64 ((wbOut D0 p0 S0 q0 R0 yy0 10 D1).1.z)] 30))
  have Bg := Lib.hid (Box.new w9 30 [.slice Ag ng cg, .int .i64 ((wbOut D0 p0 S0 q0 R0 yy0 10 D1).1.p), .slice Ag' ng' cg', .int .i64 ((wbOut D0 p0 S0 q0 R0 yy0 10 D1).1.q), .slice Eg mg dg, .int .i64 ((wbOut D0 p0 S0 q0 R0 yy0 10 D1).1.z)])
  have s10 : w9.heap.size + 1 ≤ (w9.alloc (.cells #[.slice Ag ng cg, .int .i64 ((wbOut D0 p0 S0 q0 R0 yy0 10 D1).1.p), .slice Ag' ng' cg', .int .i64 ((wbOut D0 p0 S0 q0 R0 yy0 10 D1).1.q), .slice Eg mg dg, .int .i64 ((wbOut D0 p0 S0 q0 R0 yy0 10 D1).1.z)] 30)).heap.size := by simp
  generalize w9.alloc (.cells #[.slice Ag ng cg, .int .i64 ((wbOut D0 p0 S0 q0 R0 yy0 10 D1).1.p), .slice Ag' ng' cg', .int .i64 ((wbOut D0 p0 S0 q0 R0 yy0 10 D1).1.q), .slice Eg mg dg, .int .i64 ((wbOut D0 p0 S0 q0 R0 yy0 10 D1).1.z)] 30) = w10 at *
  refine (eqWriter_same g1.out g2.out g3.out u1.out u2.out u3.out (by omega) (by omega) (by omega) (by omega) (by omega) (by omega)).mono ?_
  rintro e w11 ⟨rfl, hb⟩
  (try simp only [World.size_alloc, World.size_setCell, World.size_drew] at hb)
  have HB := Lib.hid hb
  clear hb
  have s11 := HB.out.size
  (try simp only [World.size_alloc, World.size_setCell, World.size_drew] at s11)
  replace a01 := Lib.hid (a01.out.below HB.out (by omega))
  replace a02 := Lib.hid (a02.out.below HB.out (by omega))
  replace a03 := Lib.hid (a03.out.below HB.out (by omega))
  replace a11 := Lib.hid (a11.out.below HB.out (by omega))
  replace Ba0 := Lib.hid (Ba0.out.below HB.out (by omega))
  replace u1 := Lib.hid (u1.out.below HB.out (by omega))
  replace u2 := Lib.hid (u2.out.below HB.out (by omega))
  replace u3 := Lib.hid (u3.out.below HB.out (by omega))
  replace Bu := Lib.hid (Bu.out.below HB.out (by omega))
  replace x01 := Lib.hid (x01.out.below HB.out (by omega))
  replace x02 := Lib.hid (x02.out.below HB.out (by omega))
  replace x03 := Lib.hid (x03.out.below HB.out (by omega))
  replace Bx0 := Lib.hid (Bx0.out.below HB.out (by omega))
  replace x11 := Lib.hid (x11.out.below HB.out (by omega))
  replace g1 := Lib.hid (g1.out.below HB.out (by omega))
  replace g2 := Lib.hid (g2.out.below HB.out (by omega))
  replace g3 := Lib.hid (g3.out.below HB.out (by omega))
  replace Bg := Lib.hid (Bg.out.below HB.out (by omega))
  replace EB := Lib.hid (below_step HB.out EB.out (by omega))
  clear HB
  have va0l := Ba0.out.lt
  have va00 := (Ba0.out.2 0 _ rfl).1
  have va01 := (Ba0.out.2 1 _ rfl).1
  have va02 := (Ba0.out.2 2 _ rfl).1
  have va03 := (Ba0.out.2 3 _ rfl).1
  have va04 := (Ba0.out.2 4 _ rfl).1
  have va05 := (Ba0.out.2 5 _ rfl).1
  have vx0l := Bx0.out.lt
  have vx00 := (Bx0.out.2 0 _ rfl).1
  have vx01 := (Bx0.out.2 1 _ rfl).1
  have vx02 := (Bx0.out.2 2 _ rfl).1
  have vx03 := (Bx0.out.2 3 _ rfl).1
  have vx04 := (Bx0.out.2 4 _ rfl).1
  have vx05 := (Bx0.out.2 5 _ rfl).1
  go_wp2_with fail
  clear va0l va00 va01 va02 va03 va04 va05 vx0l vx00 vx01 vx02 vx03 vx04 vx05
  have EC := Lib.hid EB.out
  have xl := Ba0.out.lt
  have x0 := (Ba0.out.2 0 _ rfl).1
  have x1 := (Ba0.out.2 1 _ rfl).1
  have x2 := (Ba0.out.2 2 _ rfl).1
  have x3 := (Ba0.out.2 3 _ rfl).1
  have x4 := (Ba0.out.2 4 _ rfl).1
  have x5 := (Ba0.out.2 5 _ rfl).1
  have yl := Bx0.out.lt
  have y0 := (Bx0.out.2 0 _ rfl).1
  have y1 := (Bx0.out.2 1 _ rfl).1
  have y2 := (Bx0.out.2 2 _ rfl).1
  have y3 := (Bx0.out.2 3 _ rfl).1
  have y4 := (Bx0.out.2 4 _ rfl).1
  have y5 := (Bx0.out.2 5 _ rfl).1
  go_region_held3 (fun w' => (w'.cell? ⟨w.heap.size, 0, none⟩ = some (.slice A0 n0 c0) ∧ w'.cell? ⟨w.heap.size, 1, none⟩ = some (.int .i64 (p0)) ∧ w'.cell? ⟨w.heap.size, 2, none⟩ = some (.slice A0' n0' c0') ∧ w'.cell? ⟨w.heap.size, 3, none⟩ = some (.int .i64 (q0)) ∧ w'.cell? ⟨w.heap.size, 4, none⟩ = some (.slice E0 m0 d0) ∧ w'.cell? ⟨w.heap.size, 5, none⟩ = some (.int .i64 (yy0))) ∧ (w'.cell? ⟨w6.heap.size, 0, none⟩ = some (.slice Ax0 nx0 cx0) ∧ w'.cell? ⟨w6.heap.size, 1, none⟩ = some (.int .i64 (p0)) ∧ w'.cell? ⟨w6.heap.size, 2, none⟩ = some (.slice Ax0' nx0' cx0') ∧ w'.cell? ⟨w6.heap.size, 3, none⟩ = some (.int .i64 (q0)) ∧ w'.cell? ⟨w6.heap.size, 4, none⟩ = some (.slice Ex0 mx0 dx0) ∧ w'.cell? ⟨w6.heap.size, 5, none⟩ = some (.int .i64 (yy0)))) (go_keep)
    (first | (go_at_call 14; refine (toWriter_any a01.out.drew a02.out.drew a03.out.drew (by first | omega | (simp; omega) | (simp; done)) (by first | omega | (simp; omega) | (simp; done)) (by first | omega | (simp; omega) | (simp; done)) hn0 hn0' hm0 hp0 hq0 hy0).mono ?_; rintro e w12 ⟨Ak, nk, ck, Ak', nk', ck', Ek, mk, dk, rfl, ⟨_, _, _⟩, hb, ⟨⟨hd, hd', _, _, _⟩, hr, _, _, _⟩⟩; (try simp only [World.size_alloc, World.size_setCell, World.size_drew] at hb hd hd' hr); have HB := Lib.hid hb; have HK1 := Lib.hid hd; have HK2 := Lib.hid hd'; have HK3 := Lib.hid hr; have sa := hb.size; (try simp only [World.size_alloc, World.size_setCell, World.size_drew] at sa); have BA := Lib.hid (Ba0.out.drew.below hb (by omega)); have BX := Lib.hid (Bx0.out.drew.below hb (by omega)); clear hb hd hd' hr; have x0 := (BA.out.2 0 _ rfl).1; have x1 := (BA.out.2 1 _ rfl).1; have x2 := (BA.out.2 2 _ rfl).1; have x3 := (BA.out.2 3 _ rfl).1; have x4 := (BA.out.2 4 _ rfl).1; have x5 := (BA.out.2 5 _ rfl).1; have y0 := (BX.out.2 0 _ rfl).1; have y1 := (BX.out.2 1 _ rfl).1; have y2 := (BX.out.2 2 _ rfl).1; have y3 := (BX.out.2 3 _ rfl).1; have y4 := (BX.out.2 4 _ rfl).1; have y5 := (BX.out.2 5 _ rfl).1) | (go_at_call 17; refine (eqWriter_same (x01.out.drew.below HB.out (by omega)) (x02.out.drew.below HB.out (by omega)) (x03.out.drew.below HB.out (by omega)) HK1.out HK2.out HK3.out (by omega) (by omega) (by omega) (by omega) (by omega) (by omega)).mono ?_; rintro e w13 ⟨rfl, hb⟩; have HC := Lib.hid hb; have sb := hb.size; have CA := Lib.hid (BA.out.below hb (by omega)); have CX := Lib.hid (BX.out.below hb (by omega)); clear hb; have x0 := (CA.out.2 0 _ rfl).1; have x1 := (CA.out.2 1 _ rfl).1; have x2 := (CA.out.2 2 _ rfl).1; have x3 := (CA.out.2 3 _ rfl).1; have x4 := (CA.out.2 4 _ rfl).1; have x5 := (CA.out.2 5 _ rfl).1; have y0 := (CX.out.2 0 _ rfl).1; have y1 := (CX.out.2 1 _ rfl).1; have y2 := (CX.out.2 2 _ rfl).1; have y3 := (CX.out.2 3 _ rfl).1; have y4 := (CX.out.2 4 _ rfl).1; have y5 := (CX.out.2 5 _ rfl).1))
  have HD : Hid (Below w11.heap.size w11 w13) := below_step HC.out (below_step HB.out (Below.refl _ _).drew (by simp)) (by omega)
  have s13 := HD.out.size
  clear xl x0 x1 x2 x3 x4 x5 yl y0 y1 y2 y3 y4 y5
  replace a01 := Lib.hid (a01.out.below HD.out (by omega))
  replace a02 := Lib.hid (a02.out.below HD.out (by omega))
  replace a03 := Lib.hid (a03.out.below HD.out (by omega))
  replace a11 := Lib.hid (a11.out.below HD.out (by omega))
  replace Ba0 := Lib.hid (Ba0.out.below HD.out (by omega))
  replace u1 := Lib.hid (u1.out.below HD.out (by omega))
  replace u2 := Lib.hid (u2.out.below HD.out (by omega))
  replace u3 := Lib.hid (u3.out.below HD.out (by omega))
  replace Bu := Lib.hid (Bu.out.below HD.out (by omega))
  replace x01 := Lib.hid (x01.out.below HD.out (by omega))
  replace x02 := Lib.hid (x02.out.below HD.out (by omega))
  replace x03 := Lib.hid (x03.out.below HD.out (by omega))
  replace Bx0 := Lib.hid (Bx0.out.below HD.out (by omega))
  replace x11 := Lib.hid (x11.out.below HD.out (by omega))
  replace g1 := Lib.hid (g1.out.below HD.out (by omega))
  replace g2 := Lib.hid (g2.out.below HD.out (by omega))
  replace g3 := Lib.hid (g3.out.below HD.out (by omega))
  replace Bg := Lib.hid (Bg.out.below HD.out (by omega))
  replace EB := Lib.hid (below_step HD.out EB.out (by omega))
  clear HB HC HD HK1 HK2 HK3 BA BX CA CX
  go_wp2_with fail
  refine (toIntS_b a11.out (by omega) hn1).mono ?_
  rintro e w14 ⟨Ak1, ck1, rfl, hck1, hb, hd⟩
  (try simp only [World.size_alloc, World.size_setCell, World.size_drew] at hb)
  have HB := Lib.hid hb
  clear hb
  have s14 := HB.out.size
  (try simp only [World.size_alloc, World.size_setCell, World.size_drew] at s14)
  replace a01 := Lib.hid (a01.out.below HB.out (by omega))
  replace a02 := Lib.hid (a02.out.below HB.out (by omega))
  replace a03 := Lib.hid (a03.out.below HB.out (by omega))
  replace a11 := Lib.hid (a11.out.below HB.out (by omega))
  replace Ba0 := Lib.hid (Ba0.out.below HB.out (by omega))
  replace u1 := Lib.hid (u1.out.below HB.out (by omega))
  replace u2 := Lib.hid (u2.out.below HB.out (by omega))
  replace u3 := Lib.hid (u3.out.below HB.out (by omega))
  replace Bu := Lib.hid (Bu.out.below HB.out (by omega))
  replace x01 := Lib.hid (x01.out.below HB.out (by omega))
  replace x02 := Lib.hid (x02.out.below HB.out (by omega))
  replace x03 := Lib.hid (x03.out.below HB.out (by omega))
  replace Bx0 := Lib.hid (Bx0.out.below HB.out (by omega))
  replace x11 := Lib.hid (x11.out.below HB.out (by omega))
  replace g1 := Lib.hid (g1.out.below HB.out (by omega))
  replace g2 := Lib.hid (g2.out.below HB.out (by omega))
  replace g3 := Lib.hid (g3.out.below HB.out (by omega))
  replace Bg := Lib.hid (Bg.out.below HB.out (by omega))
  replace EB := Lib.hid (below_step HB.out EB.out (by omega))
  clear HB
  have k11 := Lib.hid hd
  clear hd
  go_wp2_with fail
  refine (eqIntS_same x11.out k11.out).mono ?_
  rintro e w15 ⟨rfl, hb⟩
  (try simp only [World.size_alloc, World.size_setCell, World.size_drew] at hb)
  have HB := Lib.hid hb
  clear hb
  have s15 := HB.out.size
  (try simp only [World.size_alloc, World.size_setCell, World.size_drew] at s15)
  replace a01 := Lib.hid (a01.out.below HB.out (by omega))
  replace a02 := Lib.hid (a02.out.below HB.out (by omega))
  replace a03 := Lib.hid (a03.out.below HB.out (by omega))
  replace a11 := Lib.hid (a11.out.below HB.out (by omega))
  replace Ba0 := Lib.hid (Ba0.out.below HB.out (by omega))
  replace u1 := Lib.hid (u1.out.below HB.out (by omega))
  replace u2 := Lib.hid (u2.out.below HB.out (by omega))
  replace u3 := Lib.hid (u3.out.below HB.out (by omega))
  replace Bu := Lib.hid (Bu.out.below HB.out (by omega))
  replace x01 := Lib.hid (x01.out.below HB.out (by omega))
  replace x02 := Lib.hid (x02.out.below HB.out (by omega))
  replace x03 := Lib.hid (x03.out.below HB.out (by omega))
  replace Bx0 := Lib.hid (Bx0.out.below HB.out (by omega))
  replace x11 := Lib.hid (x11.out.below HB.out (by omega))
  replace g1 := Lib.hid (g1.out.below HB.out (by omega))
  replace g2 := Lib.hid (g2.out.below HB.out (by omega))
  replace g3 := Lib.hid (g3.out.below HB.out (by omega))
  replace Bg := Lib.hid (Bg.out.below HB.out (by omega))
  replace k11 := Lib.hid (k11.out.below HB.out (by omega))
  replace EB := Lib.hid (below_step HB.out EB.out (by omega))
  clear HB
  clear k11
  have vx0l := Bx0.out.lt
  have vx00 := (Bx0.out.2 0 _ rfl).1
  have vx01 := (Bx0.out.2 1 _ rfl).1
  have vx02 := (Bx0.out.2 2 _ rfl).1
  have vx03 := (Bx0.out.2 3 _ rfl).1
  have vx04 := (Bx0.out.2 4 _ rfl).1
  have vx05 := (Bx0.out.2 5 _ rfl).1
  go_wp2_with fail
  refine (markWriter_any x01.out x02.out x03.out x0a.out x0b.out x0c.out (by omega) (by omega) (by omega) (by omega) (by omega) hx0 hx0' hx0'').mono ?_
  clear vx0l vx00 vx01 vx02 vx03 vx04 vx05
  rintro e w16 ⟨rfl, hm, hi0, hi1, hi2⟩
  have HM := Lib.hid hm
  have s16 := HM.out.size
  clear hm
  replace EB := Lib.hid (below_markR EB.out HM.out x01.out x02.out x03.out (by omega) (by omega) (by omega) (by omega))
  replace a01 := Lib.hid (a01.out.markR HM.out (by omega) (Apart.of_le a01.out x01.out (by omega)).symm (Apart.of_le a01.out x02.out (by omega)).symm (Apart.of_le a01.out x03.out (by omega)).symm)
  replace a02 := Lib.hid (a02.out.markR HM.out (by omega) (Apart.of_le a02.out x01.out (by omega)).symm (Apart.of_le a02.out x02.out (by omega)).symm (Apart.of_le a02.out x03.out (by omega)).symm)
  replace a03 := Lib.hid (a03.out.markR HM.out (by omega) (Apart.of_le a03.out x01.out (by omega)).symm (Apart.of_le a03.out x02.out (by omega)).symm (Apart.of_le a03.out x03.out (by omega)).symm)
  replace a11 := Lib.hid (a11.out.markR HM.out (by omega) (Apart.of_le a11.out x01.out (by omega)).symm (Apart.of_le a11.out x02.out (by omega)).symm (Apart.of_le a11.out x03.out (by omega)).symm)
  replace Ba0 := Lib.hid (Ba0.out.markR HM.out x01.out x02.out x03.out (by omega) (by omega) (by omega))
  replace u1 := Lib.hid (u1.out.markR HM.out (by omega) (Apart.of_le u1.out x01.out (by omega)).symm (Apart.of_le u1.out x02.out (by omega)).symm (Apart.of_le u1.out x03.out (by omega)).symm)
  replace u2 := Lib.hid (u2.out.markR HM.out (by omega) (Apart.of_le u2.out x01.out (by omega)).symm (Apart.of_le u2.out x02.out (by omega)).symm (Apart.of_le u2.out x03.out (by omega)).symm)
  replace u3 := Lib.hid (u3.out.markR HM.out (by omega) (Apart.of_le u3.out x01.out (by omega)).symm (Apart.of_le u3.out x02.out (by omega)).symm (Apart.of_le u3.out x03.out (by omega)).symm)
  replace Bu := Lib.hid (Bu.out.markR HM.out x01.out x02.out x03.out (by omega) (by omega) (by omega))
  replace Bx0 := Lib.hid (Bx0.out.markR HM.out x01.out x02.out x03.out (by omega) (by omega) (by omega))
  replace x11 := Lib.hid (x11.out.markR HM.out (by omega) (Apart.of_le x01.out x11.out (by omega)) (Apart.of_le x02.out x11.out (by omega)) (Apart.of_le x03.out x11.out (by omega)))
  replace g1 := Lib.hid (g1.out.markR HM.out (by omega) (Apart.of_le x01.out g1.out (by omega)) (Apart.of_le x02.out g1.out (by omega)) (Apart.of_le x03.out g1.out (by omega)))
  replace g2 := Lib.hid (g2.out.markR HM.out (by omega) (Apart.of_le x01.out g2.out (by omega)) (Apart.of_le x02.out g2.out (by omega)) (Apart.of_le x03.out g2.out (by omega)))
  replace g3 := Lib.hid (g3.out.markR HM.out (by omega) (Apart.of_le x01.out g3.out (by omega)) (Apart.of_le x02.out g3.out (by omega)) (Apart.of_le x03.out g3.out (by omega)))
  replace Bg := Lib.hid (Bg.out.markR HM.out x01.out x02.out x03.out (by omega) (by omega) (by omega))
  replace x01 := Lib.hid hi0
  replace x02 := Lib.hid hi1
  replace x03 := Lib.hid hi2
  clear HM hi0 hi1 hi2
  go_wp2_with fail
  refine (markIntS_any x11.out (by omega) (by omega) hn1).mono ?_
  rintro e w17 ⟨rfl, hm, hi0⟩
  have HM := Lib.hid hm
  have s17 := HM.out.size
  clear hm
  replace EB := Lib.hid (below_mark EB.out HM.out x11.out (by omega))
  replace a01 := Lib.hid (a01.out.mark HM.out (Apart.of_le a01.out x11.out (by omega)).symm)
  replace a02 := Lib.hid (a02.out.mark HM.out (Apart.of_le a02.out x11.out (by omega)).symm)
  replace a03 := Lib.hid (a03.out.mark HM.out (Apart.of_le a03.out x11.out (by omega)).symm)
  replace a11 := Lib.hid (a11.out.mark HM.out (Apart.of_le a11.out x11.out (by omega)).symm)
  replace Ba0 := Lib.hid (Ba0.out.mark HM.out x11.out (by omega))
  replace u1 := Lib.hid (u1.out.mark HM.out (Apart.of_le u1.out x11.out (by omega)).symm)
  replace u2 := Lib.hid (u2.out.mark HM.out (Apart.of_le u2.out x11.out (by omega)).symm)
  replace u3 := Lib.hid (u3.out.mark HM.out (Apart.of_le u3.out x11.out (by omega)).symm)
  replace Bu := Lib.hid (Bu.out.mark HM.out x11.out (by omega))
  replace x01 := Lib.hid (x01.out.mark HM.out (Apart.of_le x01.out x11.out (by omega)).symm)
  replace x02 := Lib.hid (x02.out.mark HM.out (Apart.of_le x02.out x11.out (by omega)).symm)
  replace x03 := Lib.hid (x03.out.mark HM.out (Apart.of_le x03.out x11.out (by omega)).symm)
  replace Bx0 := Lib.hid (Bx0.out.mark HM.out x11.out (by omega))
  replace g1 := Lib.hid (g1.out.mark HM.out (Apart.of_le x11.out g1.out (by omega)))
  replace g2 := Lib.hid (g2.out.mark HM.out (Apart.of_le x11.out g2.out (by omega)))
  replace g3 := Lib.hid (g3.out.mark HM.out (Apart.of_le x11.out g3.out (by omega)))
  replace Bg := Lib.hid (Bg.out.mark HM.out x11.out (by omega))
  replace x11 := Lib.hid hi0
  clear HM hi0
  clear x01 x02 x03 Bx0
  clear x11
  have vgl := Bg.out.lt
  have vg0 := (Bg.out.2 0 _ rfl).1
  have vg1 := (Bg.out.2 1 _ rfl).1
  have vg2 := (Bg.out.2 2 _ rfl).1
  have vg3 := (Bg.out.2 3 _ rfl).1
  have vg4 := (Bg.out.2 4 _ rfl).1
  have vg5 := (Bg.out.2 5 _ rfl).1
  have vul := Bu.out.lt
  have vu0 := (Bu.out.2 0 _ rfl).1
  have vu1 := (Bu.out.2 1 _ rfl).1
  have vu2 := (Bu.out.2 2 _ rfl).1
  have vu3 := (Bu.out.2 3 _ rfl).1
  have vu4 := (Bu.out.2 4 _ rfl).1
  have vu5 := (Bu.out.2 5 _ rfl).1
  go_wp2_with fail
  refine (eqWriter_same g1.out g2.out g3.out u1.out u2.out u3.out (by omega) (by omega) (by omega) (by omega) (by omega) (by omega)).mono ?_
  clear vgl vg0 vg1 vg2 vg3 vg4 vg5 vul vu0 vu1 vu2 vu3 vu4 vu5
  rintro e w18 ⟨rfl, hb⟩
  (try simp only [World.size_alloc, World.size_setCell, World.size_drew] at hb)
  have HB := Lib.hid hb
  clear hb
  have s18 := HB.out.size
  (try simp only [World.size_alloc, World.size_setCell, World.size_drew] at s18)
  replace a01 := Lib.hid (a01.out.below HB.out (by omega))
  replace a02 := Lib.hid (a02.out.below HB.out (by omega))
  replace a03 := Lib.hid (a03.out.below HB.out (by omega))
  replace a11 := Lib.hid (a11.out.below HB.out (by omega))
  replace Ba0 := Lib.hid (Ba0.out.below HB.out (by omega))
  replace u1 := Lib.hid (u1.out.below HB.out (by omega))
  replace u2 := Lib.hid (u2.out.below HB.out (by omega))
  replace u3 := Lib.hid (u3.out.below HB.out (by omega))
  replace Bu := Lib.hid (Bu.out.below HB.out (by omega))
  replace g1 := Lib.hid (g1.out.below HB.out (by omega))
  replace g2 := Lib.hid (g2.out.below HB.out (by omega))
  replace g3 := Lib.hid (g3.out.below HB.out (by omega))
  replace Bg := Lib.hid (Bg.out.below HB.out (by omega))
  replace EB := Lib.hid (below_step HB.out EB.out (by omega))
  clear HB
  have vgl := Bg.out.lt
  have vg0 := (Bg.out.2 0 _ rfl).1
  have vg1 := (Bg.out.2 1 _ rfl).1
  have vg2 := (Bg.out.2 2 _ rfl).1
  have vg3 := (Bg.out.2 3 _ rfl).1
  have vg4 := (Bg.out.2 4 _ rfl).1
  have vg5 := (Bg.out.2 5 _ rfl).1
  go_wp2_with fail
  refine (markWriter_any g1.out g2.out g3.out g1_g2.out g3_g1.out g3_g2.out (by omega) (by omega) (by omega) (by omega) (by omega) hl_g1 hl_g2 hl_g3).mono ?_
  clear vgl vg0 vg1 vg2 vg3 vg4 vg5
  rintro e w19 ⟨rfl, hm, hi0, hi1, hi2⟩
  have HM := Lib.hid hm
  have s19 := HM.out.size
  clear hm
  replace EB := Lib.hid (below_markR EB.out HM.out g1.out g2.out g3.out (by omega) (by omega) (by omega) (by omega))
  replace a01 := Lib.hid (a01.out.markR HM.out (by omega) (Apart.of_le a01.out g1.out (by omega)).symm (Apart.of_le a01.out g2.out (by omega)).symm (Apart.of_le a01.out g3.out (by omega)).symm)
  replace a02 := Lib.hid (a02.out.markR HM.out (by omega) (Apart.of_le a02.out g1.out (by omega)).symm (Apart.of_le a02.out g2.out (by omega)).symm (Apart.of_le a02.out g3.out (by omega)).symm)
  replace a03 := Lib.hid (a03.out.markR HM.out (by omega) (Apart.of_le a03.out g1.out (by omega)).symm (Apart.of_le a03.out g2.out (by omega)).symm (Apart.of_le a03.out g3.out (by omega)).symm)
  replace a11 := Lib.hid (a11.out.markR HM.out (by omega) (Apart.of_le a11.out g1.out (by omega)).symm (Apart.of_le a11.out g2.out (by omega)).symm (Apart.of_le a11.out g3.out (by omega)).symm)
  replace Ba0 := Lib.hid (Ba0.out.markR HM.out g1.out g2.out g3.out (by omega) (by omega) (by omega))
  replace u1 := Lib.hid (u1.out.markR HM.out (by omega) (Apart.of_le u1.out g1.out (by omega)).symm (Apart.of_le u1.out g2.out (by omega)).symm (Apart.of_le u1.out g3.out (by omega)).symm)
  replace u2 := Lib.hid (u2.out.markR HM.out (by omega) (Apart.of_le u2.out g1.out (by omega)).symm (Apart.of_le u2.out g2.out (by omega)).symm (Apart.of_le u2.out g3.out (by omega)).symm)
  replace u3 := Lib.hid (u3.out.markR HM.out (by omega) (Apart.of_le u3.out g1.out (by omega)).symm (Apart.of_le u3.out g2.out (by omega)).symm (Apart.of_le u3.out g3.out (by omega)).symm)
  replace Bu := Lib.hid (Bu.out.markR HM.out g1.out g2.out g3.out (by omega) (by omega) (by omega))
  replace Bg := Lib.hid (Bg.out.markR HM.out g1.out g2.out g3.out (by omega) (by omega) (by omega))
  replace g1 := Lib.hid hi0
  replace g2 := Lib.hid hi1
  replace g3 := Lib.hid hi2
  clear HM hi0 hi1 hi2
  have vgl := Bg.out.lt
  have vg0 := (Bg.out.2 0 _ rfl).1
  have vg1 := (Bg.out.2 1 _ rfl).1
  have vg2 := (Bg.out.2 2 _ rfl).1
  have vg3 := (Bg.out.2 3 _ rfl).1
  have vg4 := (Bg.out.2 4 _ rfl).1
  have vg5 := (Bg.out.2 5 _ rfl).1
  go_wp2_with fail
  refine (heldWriter_any g1.out g2.out g3.out (by omega) (by omega) (by omega) (by omega) (by omega) hl_g1 hl_g2 hl_g3).mono ?_
  clear vgl vg0 vg1 vg2 vg3 vg4 vg5
  rintro e w20 ⟨rfl, hb⟩
  (try simp only [World.size_alloc, World.size_setCell, World.size_drew] at hb)
  have HB := Lib.hid hb
  clear hb
  have s20 := HB.out.size
  (try simp only [World.size_alloc, World.size_setCell, World.size_drew] at s20)
  replace a01 := Lib.hid (a01.out.below HB.out (by omega))
  replace a02 := Lib.hid (a02.out.below HB.out (by omega))
  replace a03 := Lib.hid (a03.out.below HB.out (by omega))
  replace a11 := Lib.hid (a11.out.below HB.out (by omega))
  replace Ba0 := Lib.hid (Ba0.out.below HB.out (by omega))
  replace u1 := Lib.hid (u1.out.below HB.out (by omega))
  replace u2 := Lib.hid (u2.out.below HB.out (by omega))
  replace u3 := Lib.hid (u3.out.below HB.out (by omega))
  replace Bu := Lib.hid (Bu.out.below HB.out (by omega))
  replace g1 := Lib.hid (g1.out.below HB.out (by omega))
  replace g2 := Lib.hid (g2.out.below HB.out (by omega))
  replace g3 := Lib.hid (g3.out.below HB.out (by omega))
  replace Bg := Lib.hid (Bg.out.below HB.out (by omega))
  replace EB := Lib.hid (below_step HB.out EB.out (by omega))
  clear HB
  have va0l := Ba0.out.lt
  have va00 := (Ba0.out.2 0 _ rfl).1
  have va01 := (Ba0.out.2 1 _ rfl).1
  have va02 := (Ba0.out.2 2 _ rfl).1
  have va03 := (Ba0.out.2 3 _ rfl).1
  have va04 := (Ba0.out.2 4 _ rfl).1
  have va05 := (Ba0.out.2 5 _ rfl).1
  go_wp2_with fail
  refine (toWriter_any a01.out a02.out a03.out (by omega) (by omega) (by omega) hn0 hn0' hm0 hp0 hq0 hy0).mono ?_
  clear va0l va00 va01 va02 va03 va04 va05
  rintro e w21 ⟨Ar0, nr0, cr0, Ar0', nr0', cr0', Er0, mr0, dr0, rfl, ⟨hcr0, hcr0', hcr0''⟩, hb, ⟨⟨hd, hd', ha, _, _⟩, hr, ha1, ha2, _⟩⟩
  (try simp only [World.size_alloc, World.size_setCell, World.size_drew] at hb)
  have HB := Lib.hid hb
  clear hb
  have s21 := HB.out.size
  (try simp only [World.size_alloc, World.size_setCell, World.size_drew] at s21)
  replace a01 := Lib.hid (a01.out.below HB.out (by omega))
  replace a02 := Lib.hid (a02.out.below HB.out (by omega))
  replace a03 := Lib.hid (a03.out.below HB.out (by omega))
  replace a11 := Lib.hid (a11.out.below HB.out (by omega))
  replace Ba0 := Lib.hid (Ba0.out.below HB.out (by omega))
  replace u1 := Lib.hid (u1.out.below HB.out (by omega))
  replace u2 := Lib.hid (u2.out.below HB.out (by omega))
  replace u3 := Lib.hid (u3.out.below HB.out (by omega))
  replace Bu := Lib.hid (Bu.out.below HB.out (by omega))
  replace g1 := Lib.hid (g1.out.below HB.out (by omega))
  replace g2 := Lib.hid (g2.out.below HB.out (by omega))
  replace g3 := Lib.hid (g3.out.below HB.out (by omega))
  replace Bg := Lib.hid (Bg.out.below HB.out (by omega))
  replace EB := Lib.hid (below_step HB.out EB.out (by omega))
  clear HB
  have r01 := Lib.hid hd
  have r02 := Lib.hid hd'
  have r03 := Lib.hid hr
  have r0a := Lib.hid ha
  have r0b := Lib.hid ha1
  have r0c := Lib.hid ha2
  clear hd hd' hr ha ha1 ha2
  have hr0 : nr0 ≤ 1048576 := by have := r01.out.len; have := HLa0.out; omega
  have hr0' : nr0' ≤ 1048576 := by have := r02.out.len; have := HLb0.out; omega
  have hr0'' : mr0 ≤ 1048576 := by have := r03.out.len; have := HLc0.out; omega
  go_wp2_with fail
  refine (toIntS_b a11.out (by omega) hn1).mono ?_
  rintro e w22 ⟨Ar1, cr1, rfl, hcr1, hb, hd⟩
  (try simp only [World.size_alloc, World.size_setCell, World.size_drew] at hb)
  have HB := Lib.hid hb
  clear hb
  have s22 := HB.out.size
  (try simp only [World.size_alloc, World.size_setCell, World.size_drew] at s22)
  replace a01 := Lib.hid (a01.out.below HB.out (by omega))
  replace a02 := Lib.hid (a02.out.below HB.out (by omega))
  replace a03 := Lib.hid (a03.out.below HB.out (by omega))
  replace a11 := Lib.hid (a11.out.below HB.out (by omega))
  replace Ba0 := Lib.hid (Ba0.out.below HB.out (by omega))
  replace u1 := Lib.hid (u1.out.below HB.out (by omega))
  replace u2 := Lib.hid (u2.out.below HB.out (by omega))
  replace u3 := Lib.hid (u3.out.below HB.out (by omega))
  replace Bu := Lib.hid (Bu.out.below HB.out (by omega))
  replace g1 := Lib.hid (g1.out.below HB.out (by omega))
  replace g2 := Lib.hid (g2.out.below HB.out (by omega))
  replace g3 := Lib.hid (g3.out.below HB.out (by omega))
  replace Bg := Lib.hid (Bg.out.below HB.out (by omega))
  replace r01 := Lib.hid (r01.out.below HB.out (by omega))
  replace r02 := Lib.hid (r02.out.below HB.out (by omega))
  replace r03 := Lib.hid (r03.out.below HB.out (by omega))
  replace EB := Lib.hid (below_step HB.out EB.out (by omega))
  clear HB
  have r11 := Lib.hid hd
  clear hd
  go_wp2_with fail
  refine (WriteLines_x (HE.below EB.out (Nat.le_refl _)) EB.out.size r01.out r02.out r03.out r11.out (by omega) (by omega) (by omega) (by omega) hcr0 hcr0' hcr0'' hcr1 hr0 hr0' hr0'' hn1).mono ?_
  rintro e w23 ⟨Ah, nh, ch, Ah', nh', ch', Eh, mh, dh, rfl, ⟨_, _, _⟩, hb, ⟨⟨hd, hd', ha, _, _⟩, hr, ha1, ha2, _⟩⟩
  (try simp only [World.size_alloc, World.size_setCell, World.size_drew] at hb)
  have HB := Lib.hid hb
  clear hb
  have s23 := HB.out.size
  (try simp only [World.size_alloc, World.size_setCell, World.size_drew] at s23)
  replace a01 := Lib.hid (a01.out.below HB.out (by omega))
  replace a02 := Lib.hid (a02.out.below HB.out (by omega))
  replace a03 := Lib.hid (a03.out.below HB.out (by omega))
  replace a11 := Lib.hid (a11.out.below HB.out (by omega))
  replace Ba0 := Lib.hid (Ba0.out.below HB.out (by omega))
  replace u1 := Lib.hid (u1.out.below HB.out (by omega))
  replace u2 := Lib.hid (u2.out.below HB.out (by omega))
  replace u3 := Lib.hid (u3.out.below HB.out (by omega))
  replace Bu := Lib.hid (Bu.out.below HB.out (by omega))
  replace g1 := Lib.hid (g1.out.below HB.out (by omega))
  replace g2 := Lib.hid (g2.out.below HB.out (by omega))
  replace g3 := Lib.hid (g3.out.below HB.out (by omega))
  replace Bg := Lib.hid (Bg.out.below HB.out (by omega))
  replace r01 := Lib.hid (r01.out.below HB.out (by omega))
  replace r02 := Lib.hid (r02.out.below HB.out (by omega))
  replace r03 := Lib.hid (r03.out.below HB.out (by omega))
  replace r11 := Lib.hid (r11.out.below HB.out (by omega))
  replace EB := Lib.hid (below_step HB.out EB.out (by omega))
  clear HB
  have h1 := Lib.hid hd
  have h2 := Lib.hid hd'
  have h3 := Lib.hid hr
  clear hd hd' hr
  have h1_h2 := Lib.hid ha
  clear ha
  have h3_h1 := Lib.hid ha1
  clear ha1
  have h3_h2 := Lib.hid ha2
  clear ha2
  obtain ⟨hx0, hx1, hx2⟩ := wbOut_le D0 p0 S0 q0 R0 yy0 10 D1
  have hl_h1 : nh ≤ 1048576 := by have := h1.out.len; omega
  have hl_h2 : nh' ≤ 1048576 := by have := h2.out.len; omega
  have hl_h3 : mh ≤ 1048576 := by have := h3.out.len; omega
  clear hx0 hx1 hx2
  clear r01 r02 r03 r11
  have vul := Bu.out.lt
  have vu0 := (Bu.out.2 0 _ rfl).1
  have vu1 := (Bu.out.2 1 _ rfl).1
  have vu2 := (Bu.out.2 2 _ rfl).1
  have vu3 := (Bu.out.2 3 _ rfl).1
  have vu4 := (Bu.out.2 4 _ rfl).1
  have vu5 := (Bu.out.2 5 _ rfl).1
  go_wp2_with fail
  clear vul vu0 vu1 vu2 vu3 vu4 vu5
  replace a01 := Lib.hid (a01.out.alloc (by omega) (.cells #[.slice Ah nh ch, .int .i64 ((wbOut D0 p0 S0 q0 R0 yy0 10 D1).1.p), .slice Ah' nh' ch', .int .i64 ((wbOut D0 p0 S0 q0 R0 yy0 10 D1).1.q), .slice Eh mh dh, .int .i64 ((wbOut D0 p0 S0 q0 R0 yy0 10 D1).1.z)] 30))
  replace a02 := Lib.hid (a02.out.alloc (by omega) (.cells #[.slice Ah nh ch, .int .i64 ((wbOut D0 p0 S0 q0 R0 yy0 10 D1).1.p), .slice Ah' nh' ch', .int .i64 ((wbOut D0 p0 S0 q0 R0 yy0 10 D1).1.q), .slice Eh mh dh, .int .i64 ((wbOut D0 p0 S0 q0 R0 yy0 10 D1).1.z)] 30))
  replace a03 := Lib.hid (a03.out.alloc (by omega) (.cells #[.slice Ah nh ch, .int .i64 ((wbOut D0 p0 S0 q0 R0 yy0 10 D1).1.p), .slice Ah' nh' ch', .int .i64 ((wbOut D0 p0 S0 q0 R0 yy0 10 D1).1.q), .slice Eh mh dh, .int .i64 ((wbOut D0 p0 S0 q0 R0 yy0 10 D1).1.z)] 30))
  replace a11 := Lib.hid (a11.out.alloc (by omega) (.cells #[.slice Ah nh ch, .int .i64 ((wbOut D0 p0 S0 q0 R0 yy0 10 D1).1.p), .slice Ah' nh' ch', .int .i64 ((wbOut D0 p0 S0 q0 R0 yy0 10 D1).1.q), .slice Eh mh dh, .int .i64 ((wbOut D0 p0 S0 q0 R0 yy0 10 D1).1.z)] 30))
  replace Ba0 := Lib.hid (Ba0.out.alloc (.cells #[.slice Ah nh ch, .int .i64 ((wbOut D0 p0 S0 q0 R0 yy0 10 D1).1.p), .slice Ah' nh' ch', .int .i64 ((wbOut D0 p0 S0 q0 R0 yy0 10 D1).1.q), .slice Eh mh dh, .int .i64 ((wbOut D0 p0 S0 q0 R0 yy0 10 D1).1.z)] 30))
  replace u1 := Lib.hid (u1.out.alloc (by omega) (.cells #[.slice Ah nh ch, .int .i64 ((wbOut D0 p0 S0 q0 R0 yy0 10 D1).1.p), .slice Ah' nh' ch', .int .i64 ((wbOut D0 p0 S0 q0 R0 yy0 10 D1).1.q), .slice Eh mh dh, .int .i64 ((wbOut D0 p0 S0 q0 R0 yy0 10 D1).1.z)] 30))
  replace u2 := Lib.hid (u2.out.alloc (by omega) (.cells #[.slice Ah nh ch, .int .i64 ((wbOut D0 p0 S0 q0 R0 yy0 10 D1).1.p), .slice Ah' nh' ch', .int .i64 ((wbOut D0 p0 S0 q0 R0 yy0 10 D1).1.q), .slice Eh mh dh, .int .i64 ((wbOut D0 p0 S0 q0 R0 yy0 10 D1).1.z)] 30))
  replace u3 := Lib.hid (u3.out.alloc (by omega) (.cells #[.slice Ah nh ch, .int .i64 ((wbOut D0 p0 S0 q0 R0 yy0 10 D1).1.p), .slice Ah' nh' ch', .int .i64 ((wbOut D0 p0 S0 q0 R0 yy0 10 D1).1.q), .slice Eh mh dh, .int .i64 ((wbOut D0 p0 S0 q0 R0 yy0 10 D1).1.z)] 30))
  replace Bu := Lib.hid (Bu.out.alloc (.cells #[.slice Ah nh ch, .int .i64 ((wbOut D0 p0 S0 q0 R0 yy0 10 D1).1.p), .slice Ah' nh' ch', .int .i64 ((wbOut D0 p0 S0 q0 R0 yy0 10 D1).1.q), .slice Eh mh dh, .int .i64 ((wbOut D0 p0 S0 q0 R0 yy0 10 D1).1.z)] 30))
  replace g1 := Lib.hid (g1.out.alloc (by omega) (.cells #[.slice Ah nh ch, .int .i64 ((wbOut D0 p0 S0 q0 R0 yy0 10 D1).1.p), .slice Ah' nh' ch', .int .i64 ((wbOut D0 p0 S0 q0 R0 yy0 10 D1).1.q), .slice Eh mh dh, .int .i64 ((wbOut D0 p0 S0 q0 R0 yy0 10 D1).1.z)] 30))
  replace g2 := Lib.hid (g2.out.alloc (by omega) (.cells #[.slice Ah nh ch, .int .i64 ((wbOut D0 p0 S0 q0 R0 yy0 10 D1).1.p), .slice Ah' nh' ch', .int .i64 ((wbOut D0 p0 S0 q0 R0 yy0 10 D1).1.q), .slice Eh mh dh, .int .i64 ((wbOut D0 p0 S0 q0 R0 yy0 10 D1).1.z)] 30))
  replace g3 := Lib.hid (g3.out.alloc (by omega) (.cells #[.slice Ah nh ch, .int .i64 ((wbOut D0 p0 S0 q0 R0 yy0 10 D1).1.p), .slice Ah' nh' ch', .int .i64 ((wbOut D0 p0 S0 q0 R0 yy0 10 D1).1.q), .slice Eh mh dh, .int .i64 ((wbOut D0 p0 S0 q0 R0 yy0 10 D1).1.z)] 30))
  replace Bg := Lib.hid (Bg.out.alloc (.cells #[.slice Ah nh ch, .int .i64 ((wbOut D0 p0 S0 q0 R0 yy0 10 D1).1.p), .slice Ah' nh' ch', .int .i64 ((wbOut D0 p0 S0 q0 R0 yy0 10 D1).1.q), .slice Eh mh dh, .int .i64 ((wbOut D0 p0 S0 q0 R0 yy0 10 D1).1.z)] 30))
  replace h1 := Lib.hid (h1.out.alloc (by omega) (.cells #[.slice Ah nh ch, .int .i64 ((wbOut D0 p0 S0 q0 R0 yy0 10 D1).1.p), .slice Ah' nh' ch', .int .i64 ((wbOut D0 p0 S0 q0 R0 yy0 10 D1).1.q), .slice Eh mh dh, .int .i64 ((wbOut D0 p0 S0 q0 R0 yy0 10 D1).1.z)] 30))
  replace h2 := Lib.hid (h2.out.alloc (by omega) (.cells #[.slice Ah nh ch, .int .i64 ((wbOut D0 p0 S0 q0 R0 yy0 10 D1).1.p), .slice Ah' nh' ch', .int .i64 ((wbOut D0 p0 S0 q0 R0 yy0 10 D1).1.q), .slice Eh mh dh, .int .i64 ((wbOut D0 p0 S0 q0 R0 yy0 10 D1).1.z)] 30))
  replace h3 := Lib.hid (h3.out.alloc (by omega) (.cells #[.slice Ah nh ch, .int .i64 ((wbOut D0 p0 S0 q0 R0 yy0 10 D1).1.p), .slice Ah' nh' ch', .int .i64 ((wbOut D0 p0 S0 q0 R0 yy0 10 D1).1.q), .slice Eh mh dh, .int .i64 ((wbOut D0 p0 S0 q0 R0 yy0 10 D1).1.z)] 30))
  replace EB := Lib.hid (EB.out.alloc (by omega) (.cells #[.slice Ah nh ch, .int .i64 ((wbOut D0 p0 S0 q0 R0 yy0 10 D1).1.p), .slice Ah' nh' ch', .int .i64 ((wbOut D0 p0 S0 q0 R0 yy0 10 D1).1.q), .slice Eh mh dh, .int .i64 ((wbOut D0 p0 S0 q0 R0 yy0 10 D1).1.z)] 30))
  have Bh := Lib.hid (Box.new w23 30 [.slice Ah nh ch, .int .i64 ((wbOut D0 p0 S0 q0 R0 yy0 10 D1).1.p), .slice Ah' nh' ch', .int .i64 ((wbOut D0 p0 S0 q0 R0 yy0 10 D1).1.q), .slice Eh mh dh, .int .i64 ((wbOut D0 p0 S0 q0 R0 yy0 10 D1).1.z)])
  have s24 : w23.heap.size + 1 ≤ (w23.alloc (.cells #[.slice Ah nh ch, .int .i64 ((wbOut D0 p0 S0 q0 R0 yy0 10 D1).1.p), .slice Ah' nh' ch', .int .i64 ((wbOut D0 p0 S0 q0 R0 yy0 10 D1).1.q), .slice Eh mh dh, .int .i64 ((wbOut D0 p0 S0 q0 R0 yy0 10 D1).1.z)] 30)).heap.size := by simp
  generalize w23.alloc (.cells #[.slice Ah nh ch, .int .i64 ((wbOut D0 p0 S0 q0 R0 yy0 10 D1).1.p), .slice Ah' nh' ch', .int .i64 ((wbOut D0 p0 S0 q0 R0 yy0 10 D1).1.q), .slice Eh mh dh, .int .i64 ((wbOut D0 p0 S0 q0 R0 yy0 10 D1).1.z)] 30) = w24 at *
  refine (eqWriter_same h1.out h2.out h3.out u1.out u2.out u3.out (by omega) (by omega) (by omega) (by omega) (by omega) (by omega)).mono ?_
  rintro e w25 ⟨rfl, hb⟩
  (try simp only [World.size_alloc, World.size_setCell, World.size_drew] at hb)
  have HB := Lib.hid hb
  clear hb
  have s25 := HB.out.size
  (try simp only [World.size_alloc, World.size_setCell, World.size_drew] at s25)
  replace a01 := Lib.hid (a01.out.below HB.out (by omega))
  replace a02 := Lib.hid (a02.out.below HB.out (by omega))
  replace a03 := Lib.hid (a03.out.below HB.out (by omega))
  replace a11 := Lib.hid (a11.out.below HB.out (by omega))
  replace Ba0 := Lib.hid (Ba0.out.below HB.out (by omega))
  replace u1 := Lib.hid (u1.out.below HB.out (by omega))
  replace u2 := Lib.hid (u2.out.below HB.out (by omega))
  replace u3 := Lib.hid (u3.out.below HB.out (by omega))
  replace Bu := Lib.hid (Bu.out.below HB.out (by omega))
  replace g1 := Lib.hid (g1.out.below HB.out (by omega))
  replace g2 := Lib.hid (g2.out.below HB.out (by omega))
  replace g3 := Lib.hid (g3.out.below HB.out (by omega))
  replace Bg := Lib.hid (Bg.out.below HB.out (by omega))
  replace h1 := Lib.hid (h1.out.below HB.out (by omega))
  replace h2 := Lib.hid (h2.out.below HB.out (by omega))
  replace h3 := Lib.hid (h3.out.below HB.out (by omega))
  replace Bh := Lib.hid (Bh.out.below HB.out (by omega))
  replace EB := Lib.hid (below_step HB.out EB.out (by omega))
  clear HB
  have vgl := Bg.out.lt
  have vg0 := (Bg.out.2 0 _ rfl).1
  have vg1 := (Bg.out.2 1 _ rfl).1
  have vg2 := (Bg.out.2 2 _ rfl).1
  have vg3 := (Bg.out.2 3 _ rfl).1
  have vg4 := (Bg.out.2 4 _ rfl).1
  have vg5 := (Bg.out.2 5 _ rfl).1
  go_wp2_with fail
  refine (heldWriter_any g1.out g2.out g3.out (by omega) (by omega) (by omega) (by omega) (by omega) hl_g1 hl_g2 hl_g3).mono ?_
  clear vgl vg0 vg1 vg2 vg3 vg4 vg5
  rintro e w26 ⟨rfl, hb⟩
  (try simp only [World.size_alloc, World.size_setCell, World.size_drew] at hb)
  have HB := Lib.hid hb
  clear hb
  have s26 := HB.out.size
  (try simp only [World.size_alloc, World.size_setCell, World.size_drew] at s26)
  replace a01 := Lib.hid (a01.out.below HB.out (by omega))
  replace a02 := Lib.hid (a02.out.below HB.out (by omega))
  replace a03 := Lib.hid (a03.out.below HB.out (by omega))
  replace a11 := Lib.hid (a11.out.below HB.out (by omega))
  replace Ba0 := Lib.hid (Ba0.out.below HB.out (by omega))
  replace u1 := Lib.hid (u1.out.below HB.out (by omega))
  replace u2 := Lib.hid (u2.out.below HB.out (by omega))
  replace u3 := Lib.hid (u3.out.below HB.out (by omega))
  replace Bu := Lib.hid (Bu.out.below HB.out (by omega))
  replace g1 := Lib.hid (g1.out.below HB.out (by omega))
  replace g2 := Lib.hid (g2.out.below HB.out (by omega))
  replace g3 := Lib.hid (g3.out.below HB.out (by omega))
  replace Bg := Lib.hid (Bg.out.below HB.out (by omega))
  replace h1 := Lib.hid (h1.out.below HB.out (by omega))
  replace h2 := Lib.hid (h2.out.below HB.out (by omega))
  replace h3 := Lib.hid (h3.out.below HB.out (by omega))
  replace Bh := Lib.hid (Bh.out.below HB.out (by omega))
  replace EB := Lib.hid (below_step HB.out EB.out (by omega))
  clear HB
  go_wp2
  go_ret
  exact ⟨rfl, EB.out⟩

theorem contract (H : Type) (enc : TypeId × Value → H) (W : World) (base : Nat) (args : Array Value) (ds gs : List (DataW H)) (before : List MemPlace)
    (hval : ∀ (j : Nat) t v, Tryd.f4.params[j]? = some t → args[j]? = some v → Value.okWide Tryd.prog W .any base t v)
    (hW : DataW.Whole enc Tryd.prog Tryd.f4.params.toList Rows.fnExactWriteLinesSpec.vars false W args.toList ds gs before) (hL : laidMetH Tryd.prog laid3 W) :
    Calls Tryd.prog 4 args W fun e W' => ∃ v, e = .returned v ∧ Rows.fnExactWriteLinesSpec.post enc Tryd.prog Tryd.f4 false true false false W args v W' := by
  have hW' := hW
  have hlt : ∀ p ∈ before, p.block < W.heap.size := fun p hp => hW.lt p hp
  obtain ⟨p, q, hA0, hV0, rfl, hfz, hnd⟩ := hW
  have hA : DataW.TrodAll enc Tryd.prog W 0 (fun _ => true) true Tryd.f4.params.toList args.toList ds p := hA0
  have hV : DataW.TrodVars enc Tryd.prog W (fun _ => true) ["loop.example/streamlayers/impl.errNone", "loop.example/streamlayers/impl.errFault", "loop.example/streamlayers/impl.errFull"] gs q := hV0
  rw [Tryd.params4] at hA hval
  obtain ⟨v0, vs0, d0, ds0, p0, q0, hargs, rfl, rfl, h0, r0⟩ := trodAll_cons hA
  obtain ⟨v1, vs1, d1, ds1, p1, q1, rfl, rfl, rfl, h1, r1⟩ := trodAll_cons r0
  obtain ⟨rfl, rfl, rfl⟩ := trodAll_nil r1
  obtain rfl : args = #[v0, v1] := by cases args; simp_all
  obtain ⟨a0, a1, a2, ⟨hv0, hv1, hv2⟩, ⟨n01, n02, n12⟩, w0, w1, w2⟩ := laid3_gives hL
  have hE := errs_of hv0 hv1 hv2 n01 n02 n12 w0 w1 w2
  have lt0 := hE.1.1.1
  have lt1 := hE.1.1.2.1
  have lt2 := hE.1.1.2.2
  have vr : ∀ {X : World}, Below W.heap.size W X → ∀ sp : Nat → Bool, DataW.TrodVars enc Tryd.prog X sp ["loop.example/streamlayers/impl.errNone", "loop.example/streamlayers/impl.errFault", "loop.example/streamlayers/impl.errFull"] [tok enc (errAt a0), tok enc (errAt a1), tok enc (errAt a2)] [.cell 0 0, .cell 1 0, .cell 2 0] := fun hb sp => vars_read3 enc (var?_below hb (by kernel_rfl) lt0 hv0) (var?_below hb (by kernel_rfl) lt1 hv1) (var?_below hb (by kernel_rfl) lt2 hv2) trivial trivial trivial sp
  obtain ⟨rfl, rfl⟩ := hV.unique (vr (Below.refl _ _) _)
  obtain ⟨A, n, c, x, A', n', c', y, A2, n2, c2, u, D, S, R, rfl, hD0, hS0, hR0, hx0, hy0, hu0⟩ := arg_writer (hval 0 _ v0 rfl rfl) h0 (fun p hp => hlt p (by simp [hp])) (fun b o hp => hfz b o (by simp [hp]))
  obtain ⟨A, n, c, D, rfl, _, hD1⟩ := arg_intsv (hval 1 _ v1 rfl rfl) h1 (fun p hp => hlt p (by simp [hp])) (fun b o hp => hfz b o (by simp [hp]))
  refine (walk _ _ _ _ _ _ _ _ _ _ _ _ _ _ _ _ _ _ _ _ _ _ W hD0 hS0 hR0 hx0 hy0 hu0 hD1 hE).mono fun e W' hh => ?_
  obtain ⟨rfl, hb⟩ := hh
  exact ⟨_, rfl, law_postV laidOut (tys_of (by rw [Tryd.params4]; kernel_rfl)) hW' (fun sp => vr hb sp) rfl rfl Tryd.underlying4 hb⟩

set_option maxRecDepth 100000 in
theorem lifted (os : Os) (started : os.Started) (H : Type) (enc : TypeId × Value → H) :
    ReturnsInHanded {} Tryd.checked os 4 .any (fun w args => (Rows.fnExactWriteLinesSpec.pre enc Tryd.prog Tryd.f4 [] false w args ∧ laidMetH Tryd.prog laid3 w) ∧ sizedMet enc Tryd.prog Tryd.f4 (OpenSpec.ofChange Rows.fnExactWriteLinesSpec) false w args) (Rows.fnExactWriteLinesSpec.post enc Tryd.prog Tryd.f4 false true false false) := by
  refine returnsInHanded_of_change_and (C := Tryd.checked) (X := fun w _ => laidMetH Tryd.prog laid3 w) (fun _ _ _ hh h => h.of_heap hh) own started (by kernel_rfl) Tryd.func4
    (ChangeSpec.witness_shaped (enc := enc) (C := Tryd.checked) (os := os) (X := fun w _ => laidMetH Tryd.prog laid3 w) false (World.doorLaid Tryd.prog 85 os) #[.agg #[.slice none 0 0, .int .i64 0, .slice none 0 0, .int .i64 0, .slice none 0 0, .int .i64 0], .slice none 0 0] 8 rfl (World.shaped_of_RefB (by kernel_rfl) (by kernel_rfl)) (by kernel_rfl) (by kernel_rfl) (by kernel_rfl) (door_met3 os _)) ?_
  intro W base args ds gs before hval hW _ _ hL _
  exact contract H enc W base args ds gs before hval hW hL

theorem row : Rows.FnExactWriteLinesSaid :=
  OpenClaim.holds_of_wide 4 Tryd.f4 rfl rfl rfl rfl rfl rfl rfl ⟨rfl, rfl, rfl, rfl, rfl⟩ rfl rfl rfl rfl rfl (by kernel_rfl) Tryd.func4 (by kernel_rfl)
    (of_decide_eq_true (by kernel_rfl)) (by unfold Func.isWrapper; first | (rw [if_pos (by decide +kernel)]; kernel_rfl) | (rw [if_neg (by decide +kernel)]; exact ⟨rfl, rfl⟩))
    (fun os started H enc _ => lifted os started H enc)

theorem holds : Rows.FnExactWriteLinesCardSaid :=
  Claim7.holds_tied_plain_at .later [] [.sentinel, .sentinel, .sentinel] true _ true
    row (fun _ h => by cases h) (by kernel_rfl) (fun _ h => by cases h) fnExactWriteLines_row_tie rfl ⟨rfl, rfl⟩ (by kernel_rfl) rfl
    (fun f fn hf hfn => by
      obtain rfl : f = 4 := Option.some.inj ((show Tryd.prog.funcNamed "loop.example/streamlayers/laws.FnExactWriteLines" = some 4 by kernel_rfl).symm.trans hf) |>.symm
      obtain rfl : fn = Tryd.f4 := (Option.some.inj (Tryd.func4.symm.trans hfn)).symm
      exact ⟨by kernel_rfl, fun j t ht => by
        have hm : t ∈ Tryd.f4.params.toList := Array.mem_toList_iff.2 (Array.mem_of_getElem? ht)
        have hall : (Tryd.f4.params.toList.all fun t => !(Tryd.prog.wantsStandIn t)) = true := by kernel_rfl
        have h9 := List.all_eq_true.1 hall t hm
        show Tryd.prog.wantsStandIn t = false
        simpa using h9⟩)
    (by kernel_rfl)
end ExactWriteLines
end Go.Proofs.YtdiebkaedjlckaaDoor
