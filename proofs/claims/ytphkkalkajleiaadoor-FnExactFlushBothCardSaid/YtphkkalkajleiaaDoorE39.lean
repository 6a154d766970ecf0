/- The exact law of FlushBoth: for all arguments the function answers as its model, and writes into none. -/
import Derived.Test.YtphkkalkajleiaaDoorLawBase
import Derived.Test.YtphkkalkajleiaaDoorL9
import Derived.Test.YtphkkalkajleiaaDoorS4d
import Derived.Test.YtphkkalkajleiaaDoorER3
import Derived.Test.YtphkkalkajleiaaDoorCards
import Derived.Test.YtphkkalkajleiaaDoorTie
set_option maxRecDepth 10000
namespace Go.Proofs.YtphkkalkajleiaaDoor
open Go.ChangeShapes Go.WideShapes Go.ChangeAt Go.RowKit
set_option linter.unusedSimpArgs false
set_option linter.unusedVariables false
namespace ExactFlushBoth
set_option maxHeartbeats 16000000 in
theorem walk (A0 A0' E0 F0 : Option Addr) (n0 c0 n0' c0' m0 d0 l0 k0 : Nat) (D0 S0 R0 Q0 : List Int) (p0 q0 yy0 : Int) (a0 a1 a2 : Addr) (w : World) (h0 : Ints w 0 w.heap.size A0 n0 D0) (h0' : Ints w 0 w.heap.size A0' n0' S0) (g0 : Ints w 0 w.heap.size E0 m0 R0) (j0 : Ints w 0 w.heap.size F0 l0 Q0) (hp0 : okInt p0) (hq0 : okInt q0) (hy0 : okInt yy0) (HE : Errs w w.heap.size a0 a1 a2) :
    Calls Tryd.prog 8 #[.agg #[.slice A0 n0 c0, .int .i64 (p0), .slice A0' n0' c0', .int .i64 (q0), .slice E0 m0 d0, .slice F0 l0 k0, .int .i64 (yy0)]] w (BoolB true w) := by
  have HLa0 := Lib.hid h0.len
  have hm0 := h0.max
  have HLb0 := Lib.hid h0'.len
  have hm0' := h0'.max
  have HLc0 := Lib.hid g0.len
  have hm0'' := g0.max
  have HLd0 := Lib.hid j0.len
  have hm0''' := j0.max
  have a01 := Lib.hid h0
  have a02 := Lib.hid h0'
  have a03 := Lib.hid g0
  have a04 := Lib.hid j0
  clear h0 h0' g0 j0
  have EB := Lib.hid (Below.refl w.heap.size w)
  replace a01 := Lib.hid (a01.out.alloc (Nat.le_refl _) (.cells #[.slice A0 n0 c0, .int .i64 (p0), .slice A0' n0' c0', .int .i64 (q0), .slice E0 m0 d0, .slice F0 l0 k0, .int .i64 (yy0)] 48))
  replace a02 := Lib.hid (a02.out.alloc (Nat.le_refl _) (.cells #[.slice A0 n0 c0, .int .i64 (p0), .slice A0' n0' c0', .int .i64 (q0), .slice E0 m0 d0, .slice F0 l0 k0, .int .i64 (yy0)] 48))
  replace a03 := Lib.hid (a03.out.alloc (Nat.le_refl _) (.cells #[.slice A0 n0 c0, .int .i64 (p0), .slice A0' n0' c0', .int .i64 (q0), .slice E0 m0 d0, .slice F0 l0 k0, .int .i64 (yy0)] 48))
  replace a04 := Lib.hid (a04.out.alloc (Nat.le_refl _) (.cells #[.slice A0 n0 c0, .int .i64 (p0), .slice A0' n0' c0', .int .i64 (q0), .slice E0 m0 d0, .slice F0 l0 k0, .int .i64 (yy0)] 48))
  replace EB := Lib.hid (EB.out.alloc (Nat.le_refl _) (.cells #[.slice A0 n0 c0, .int .i64 (p0), .slice A0' n0' c0', .int .i64 (q0), .slice E0 m0 d0, .slice F0 l0 k0, .int .i64 (yy0)] 48))
  have Ba0 := Lib.hid (Box.new w 48 [.slice A0 n0 c0, .int .i64 (p0), .slice A0' n0' c0', .int .i64 (q0), .slice E0 m0 d0, .slice F0 l0 k0, .int .i64 (yy0)])
  go_enter Tryd.func8, Tryd.ntmps8
  go_wp2_with fail
  refine (szBoth_any hm0 hm0' hm0'' hm0''' (by omega) (by omega)).mono ?_
  rintro e w1 ⟨r, rfl, hr, hb⟩
  (try simp only [World.size_alloc, World.size_setCell, World.size_drew] at hb)
  have HB := Lib.hid hb
  clear hb
  have s1 := HB.out.size
  (try simp only [World.size_alloc, World.size_setCell, World.size_drew] at s1)
  replace a01 := Lib.hid (a01.out.below HB.out (by omega))
  replace a02 := Lib.hid (a02.out.below HB.out (by omega))
  replace a03 := Lib.hid (a03.out.below HB.out (by omega))
  replace a04 := Lib.hid (a04.out.below HB.out (by omega))
  replace Ba0 := Lib.hid (Ba0.out.below HB.out (by omega))
  replace EB := Lib.hid (below_step HB.out EB.out (by omega))
  clear HB
  have va0l := Ba0.out.lt
  have va00 := (Ba0.out.2 0 _ rfl).1
  have va01 := (Ba0.out.2 1 _ rfl).1
  have va02 := (Ba0.out.2 2 _ rfl).1
  have va03 := (Ba0.out.2 3 _ rfl).1
  have va04 := (Ba0.out.2 4 _ rfl).1
  have va05 := (Ba0.out.2 5 _ rfl).1
  have va06 := (Ba0.out.2 6 _ rfl).1
  go_wp2_with fail
  · go_ret
    exact ⟨rfl, EB.out⟩
  have hs0 : n0 ≤ 1048576 := by omega
  have hs0' : n0' ≤ 1048576 := by omega
  have hs0'' : m0 ≤ 1048576 := by omega
  have hs0''' : l0 ≤ 1048576 := by omega
  clear hr
  refine (toBoth_any a01.out a02.out a03.out a04.out (by omega) (by omega) (by omega) (by omega) hs0 hs0' hs0'' hs0''' hp0 hq0 hy0).mono ?_
  clear va0l va00 va01 va02 va03 va04 va05 va06
  rintro e w2 ⟨At0, nt0, ct0, At0', nt0', ct0', Et0, mt0, dt0, Ft0, lt0, kt0, rfl, ⟨hct0, hct0', hct0'', hct0'''⟩, hb, ⟨⟨⟨hd0, hd1, ha0, _, _⟩, hd2, ha1, ha2, _⟩, hd3, ha3, ha4, ha5⟩⟩
  (try simp only [World.size_alloc, World.size_setCell, World.size_drew] at hb)
  have HB := Lib.hid hb
  clear hb
  have s2 := HB.out.size
  (try simp only [World.size_alloc, World.size_setCell, World.size_drew] at s2)
  replace a01 := Lib.hid (a01.out.below HB.out (by omega))
  replace a02 := Lib.hid (a02.out.below HB.out (by omega))
  replace a03 := Lib.hid (a03.out.below HB.out (by omega))
  replace a04 := Lib.hid (a04.out.below HB.out (by omega))
  replace Ba0 := Lib.hid (Ba0.out.below HB.out (by omega))
  replace EB := Lib.hid (below_step HB.out EB.out (by omega))
  clear HB
  have t01 := Lib.hid hd0
  have t02 := Lib.hid hd1
  have t03 := Lib.hid hd2
  have t04 := Lib.hid hd3
  have t01_t02 := Lib.hid ha0
  have t03_t01 := Lib.hid ha1
  have t03_t02 := Lib.hid ha2
  have t04_t01 := Lib.hid ha3
  have t04_t02 := Lib.hid ha4
  have t04_t03 := Lib.hid ha5
  clear hd0 hd1 hd2 hd3 ha0 ha1 ha2 ha3 ha4 ha5
  have ht0 : nt0 ≤ 1048576 := by have := t01.out.len; have := HLa0.out; omega
  have ht0' : nt0' ≤ 1048576 := by have := t02.out.len; have := HLb0.out; omega
  have ht0'' : mt0 ≤ 1048576 := by have := t03.out.len; have := HLc0.out; omega
  have ht0''' : lt0 ≤ 1048576 := by have := t04.out.len; have := HLd0.out; omega
  go_wp2_with fail
  refine (SFlushBoth_x t01.out t02.out t03.out t04.out (by omega) (by omega) (by omega) (by omega) hct0 hct0' hct0'' hct0''' ht0 ht0' ht0'' ht0''').mono ?_
  rintro e w3 ⟨Au, nu, cu, Au', nu', cu', Eu, mu, du, Fu, lu, ku, rfl, ⟨hcu, hcu', hcu'', hcu'''⟩, hb, ⟨⟨⟨hd0, hd1, ha0, _, _⟩, hd2, ha1, ha2, _⟩, hd3, ha3, ha4, ha5⟩⟩
  (try simp only [World.size_alloc, World.size_setCell, World.size_drew] at hb)
  have HB := Lib.hid hb
  clear hb
  have s3 := HB.out.size
  (try simp only [World.size_alloc, World.size_setCell, World.size_drew] at s3)
  replace a01 := Lib.hid (a01.out.below HB.out (by omega))
  replace a02 := Lib.hid (a02.out.below HB.out (by omega))
  replace a03 := Lib.hid (a03.out.below HB.out (by omega))
  replace a04 := Lib.hid (a04.out.below HB.out (by omega))
  replace Ba0 := Lib.hid (Ba0.out.below HB.out (by omega))
  replace t01 := Lib.hid (t01.out.below HB.out (by omega))
  replace t02 := Lib.hid (t02.out.below HB.out (by omega))
  replace t03 := Lib.hid (t03.out.below HB.out (by omega))
  replace t04 := Lib.hid (t04.out.below HB.out (by omega))
  replace EB := Lib.hid (below_step HB.out EB.out (by omega))
  clear HB
  have u1 := Lib.hid hd0
  have u2 := Lib.hid hd1
  have u3 := Lib.hid hd2
  have u4 := Lib.hid hd3
  clear hd0 hd1 hd2 hd3
  have u1_u2 := Lib.hid ha0
  clear ha0
  have u3_u1 := Lib.hid ha1
  clear ha1
  have u3_u2 := Lib.hid ha2
  clear ha2
  have u4_u1 := Lib.hid ha3
  clear ha3
  have u4_u2 := Lib.hid ha4
  clear ha4
  have u4_u3 := Lib.hid ha5
  clear ha5
  obtain ⟨hx0, hx1, hx2, hx3⟩ := fbOut_le D0 p0 S0 q0 R0 Q0 yy0
  have hl_u1 : nu ≤ 1048576 := by have := u1.out.len; omega
  have hl_u2 : nu' ≤ 1048576 := by have := u2.out.len; omega
  have hl_u3 : mu ≤ 1048576 := by have := u3.out.len; omega
  have hl_u4 : lu ≤ 1048576 := by have := u4.out.len; omega
  clear hx0 hx1 hx2 hx3
  clear t01 t02 t03 t04
  have va0l := Ba0.out.lt
  have va00 := (Ba0.out.2 0 _ rfl).1
  have va01 := (Ba0.out.2 1 _ rfl).1
  have va02 := (Ba0.out.2 2 _ rfl).1
  have va03 := (Ba0.out.2 3 _ rfl).1
  have va04 := (Ba0.out.2 4 _ rfl).1
  have va05 := (Ba0.out.2 5 _ rfl).1
  have va06 := (Ba0.out.2 6 _ rfl).1
  go_wp2_with fail
  clear va0l va00 va01 va02 va03 va04 va05 va06
  replace a01 := Lib.hid (a01.out.alloc (by omega) (.cells #[.slice Au nu cu, .int .i64 ((fbOut D0 p0 S0 q0 R0 Q0 yy0).1.p), .slice Au' nu' cu', .int .i64 ((fbOut D0 p0 S0 q0 R0 Q0 yy0).1.q), .slice Eu mu du, .slice Fu lu ku, .int .i64 ((fbOut D0 p0 S0 q0 R0 Q0 yy0).1.z)] 51))
  replace a02 := Lib.hid (a02.out.alloc (by omega) (.cells #[.slice Au nu cu, .int .i64 ((fbOut D0 p0 S0 q0 R0 Q0 yy0).1.p), .slice Au' nu' cu', .int .i64 ((fbOut D0 p0 S0 q0 R0 Q0 yy0).1.q), .slice Eu mu du, .slice Fu lu ku, .int .i64 ((fbOut D0 p0 S0 q0 R0 Q0 yy0).1.z)] 51))
  replace a03 := Lib.hid (a03.out.alloc (by omega) (.cells #[.slice Au nu cu, .int .i64 ((fbOut D0 p0 S0 q0 R0 Q0 yy0).1.p), .slice Au' nu' cu', .int .i64 ((fbOut D0 p0 S0 q0 R0 Q0 yy0).1.q), .slice Eu mu du, .slice Fu lu ku, .int .i64 ((fbOut D0 p0 S0 q0 R0 Q0 yy0).1.z)] 51))
  replace a04 := Lib.hid (a04.out.alloc (by omega) (.cells #[.slice Au nu cu, .int .i64 ((fbOut D0 p0 S0 q0 R0 Q0 yy0).1.p), .slice Au' nu' cu', .int .i64 ((fbOut D0 p0 S0 q0 R0 Q0 yy0).1.q), .slice Eu mu du, .slice Fu lu ku, .int .i64 ((fbOut D0 p0 S0 q0 R0 Q0 yy0).1.z)] 51))
  replace Ba0 := Lib.hid (Ba0.out.alloc (.cells #[.slice Au nu cu, .int .i64 ((fbOut D0 p0 S0 q0 R0 Q0 yy0).1.p), .slice Au' nu' cu', .int .i64 ((fbOut D0 p0 S0 q0 R0 Q0 yy0).1.q), .slice Eu mu du, .slice Fu lu ku, .int .i64 ((fbOut D0 p0 S0 q0 R0 Q0 yy0).1.z)] 51))
  replace u1 := Lib.hid (u1.out.alloc (by omega) (.cells #[.slice Au nu cu, .int .i64 ((fbOut D0 p0 S0 q0 R0 Q0 yy0).1.p), .slice Au' nu' cu', .int .i64 ((fbOut D0 p0 S0 q0 R0 Q0 yy0).1.q), .slice Eu mu du, .slice Fu lu ku, .int .i64 ((fbOut D0 p0 S0 q0 R0 Q0 yy0).1.z)] 51))
  replace u2 := Lib.hid (u2.out.alloc (by omega) (.cells #[.slice Au nu cu, .int .i64 ((fbOut D0 p0 S0 q0 R0 Q0 yy0).1.p), .slice Au' nu' cu', .int .i64 ((fbOut D0 p0 S0 q0 R0 Q0 yy0).1.q), .slice Eu mu du, .slice Fu lu ku, .int .i64 ((fbOut D0 p0 S0 q0 R0 Q0 yy0).1.z)] 51))
  replace u3 := Lib.hid (u3.out.alloc (by omega) (.cells #[.slice Au nu cu, .int .i64 ((fbOut D0 p0 S0 q0 R0 Q0 yy0).1.p), .slice Au' nu' cu', .int .i64 ((fbOut D0 p0 S0 q0 R0 Q0 yy0).1.q), .slice Eu mu du, .slice Fu lu ku, .int .i64 ((fbOut D0 p0 S0 q0 R0 Q0 yy0).1.z)] 51))
  replace u4 := Lib.hid (u4.out.alloc (by omega) (.cells #[.slice Au nu cu, .int .i64 ((fbOut D0 p0 S0 q0 R0 Q0 yy0).1.p), .slice Au' nu' cu', .int .i64 ((fbOut D0 p0 S0 q0 R0 Q0 yy0).1.q), .slice Eu mu du, .slice Fu lu ku, .int .i64 ((fbOut D0 p0 S0 q0 R0 Q0 yy0).1.z)] 51))
  replace EB := Lib.hid (EB.out.alloc (by omega) (.cells #[.slice Au nu cu, .int .i64 ((fbOut D0 p0 S0 q0 R0 Q0 yy0).1.p), .slice Au' nu' cu', .int .i64 ((fbOut D0 p0 S0 q0 R0 Q0 yy0).1.q), .slice Eu mu du, .slice Fu lu ku, .int .i64 ((fbOut D0 p0 S0 q0 R0 Q0 yy0).1.z)] 51))
  have Bu := Lib.hid (Box.new w3 51 [.slice Au nu cu, .int .i64 ((fbOut D0 p0 S0 q0 R0 Q0 yy0).1.p), .slice Au' nu' cu', .int .i64 ((fbOut D0 p0 S0 q0 R0 Q0 yy0).1.q), .slice Eu mu du, .slice Fu lu ku, .int .i64 ((fbOut D0 p0 S0 q0 R0 Q0 yy0).1.z)])
  have s4 : w3.heap.size + 1 ≤ (w3.alloc (.cells #[.slice Au nu cu, .int .i64 ((fbOut D0 p0 S0 q0 R0 Q0 yy0).1.p), .slice Au' nu' cu', .int .i64 ((fbOut D0 p0 S0 q0 R0 Q0 yy0).1.q), .slice Eu mu du, .slice Fu lu ku, .int .i64 ((fbOut D0 p0 S0 q0 R0 Q0 yy0).1.z)] 51)).heap.size := by simp
  generalize w3.alloc (.cells #[.slice Au nu cu, .int .i64 ((fbOut D0 p0 S0 q0 R0 Q0 yy0).1.p), .slice Au' nu' cu', .int .i64 ((fbOut D0 p0 S0 q0 R0 Q0 yy0).1.q), .slice Eu mu du, .slice Fu lu ku, .int .i64 ((fbOut D0 p0 S0 q0 R0 Q0 yy0).1.z)] 51) = w4 at *
  refine (toBoth_any a01.out a02.out a03.out a04.out (by omega) (by omega) (by omega) (by omega) hs0 hs0' hs0'' hs0''' hp0 hq0 hy0).mono ?_
  rintro e w5 ⟨Ax0, nx0, cx0, Ax0', nx0', cx0', Ex0, mx0, dx0, Fx0, lx0, kx0, rfl, ⟨hcx0, hcx0', hcx0'', hcx0'''⟩, hb, ⟨⟨⟨hd0, hd1, ha0, _, _⟩, hd2, ha1, ha2, _⟩, hd3, ha3, ha4, ha5⟩⟩
  (try simp only [World.size_alloc, World.size_setCell, World.size_drew] at hb)
  have HB := Lib.hid hb
  clear hb
  have s5 := HB.out.size
  (try simp only [World.size_alloc, World.size_setCell, World.size_drew] at s5)
  replace a01 := Lib.hid (a01.out.below HB.out (by omega))
  replace a02 := Lib.hid (a02.out.below HB.out (by omega))
  replace a03 := Lib.hid (a03.out.below HB.out (by omega))
  replace a04 := Lib.hid (a04.out.below HB.out (by omega))
  replace Ba0 := Lib.hid (Ba0.out.below HB.out (by omega))
  replace u1 := Lib.hid (u1.out.below HB.out (by omega))
  replace u2 := Lib.hid (u2.out.below HB.out (by omega))
  replace u3 := Lib.hid (u3.out.below HB.out (by omega))
  replace u4 := Lib.hid (u4.out.below HB.out (by omega))
  replace Bu := Lib.hid (Bu.out.below HB.out (by omega))
  replace EB := Lib.hid (below_step HB.out EB.out (by omega))
  clear HB
  have x01 := Lib.hid hd0
  have x02 := Lib.hid hd1
  have x03 := Lib.hid hd2
  have x04 := Lib.hid hd3
  have x01_x02 := Lib.hid ha0
  have x03_x01 := Lib.hid ha1
  have x03_x02 := Lib.hid ha2
  have x04_x01 := Lib.hid ha3
  have x04_x02 := Lib.hid ha4
  have x04_x03 := Lib.hid ha5
  clear hd0 hd1 hd2 hd3 ha0 ha1 ha2 ha3 ha4 ha5
  have hx0 : nx0 ≤ 1048576 := by have := x01.out.len; have := HLa0.out; omega
  have hx0' : nx0' ≤ 1048576 := by have := x02.out.len; have := HLb0.out; omega
  have hx0'' : mx0 ≤ 1048576 := by have := x03.out.len; have := HLc0.out; omega
  have hx0''' : lx0 ≤ 1048576 := by have := x04.out.len; have := HLd0.out; omega
  go_wp2_with fail
  replace a01 := Lib.hid (a01.out.alloc (by omega) (.cells #[.slice Ax0 nx0 cx0, .int .i64 (p0), .slice Ax0' nx0' cx0', .int .i64 (q0), .slice Ex0 mx0 dx0, .slice Fx0 lx0 kx0, .int .i64 (yy0)] 51))
  replace a02 := Lib.hid (a02.out.alloc (by omega) (.cells #[.slice Ax0 nx0 cx0, .int .i64 (p0), .slice Ax0' nx0' cx0', .int .i64 (q0), .slice Ex0 mx0 dx0, .slice Fx0 lx0 kx0, .int .i64 (yy0)] 51))
  replace a03 := Lib.hid (a03.out.alloc (by omega) (.cells #[.slice Ax0 nx0 cx0, .int .i64 (p0), .slice Ax0' nx0' cx0', .int .i64 (q0), .slice Ex0 mx0 dx0, .slice Fx0 lx0 kx0, .int .i64 (yy0)] 51))
  replace a04 := Lib.hid (a04.out.alloc (by omega) (.cells #[.slice Ax0 nx0 cx0, .int .i64 (p0), .slice Ax0' nx0' cx0', .int .i64 (q0), .slice Ex0 mx0 dx0, .slice Fx0 lx0 kx0, .int .i64 (yy0)] 51))
  replace Ba0 := Lib.hid (Ba0.out.alloc (.cells #[.slice Ax0 nx0 cx0, .int .i64 (p0), .slice Ax0' nx0' cx0', .int .i64 (q0), .slice Ex0 mx0 dx0, .slice Fx0 lx0 kx0, .int .i64 (yy0)] 51))
  replace u1 := Lib.hid (u1.out.alloc (by omega) (.cells #[.slice Ax0 nx0 cx0, .int .i64 (p0), .slice Ax0' nx0' cx0', .int .i64 (q0), .slice Ex0 mx0 dx0, .slice Fx0 lx0 kx0, .int .i64 (yy0)] 51))
  replace u2 := Lib.hid (u2.out.alloc (by omega) (.cells #[.slice Ax0 nx0 cx0, .int .i64 (p0), .slice Ax0' nx0' cx0', .int .i64 (q0), .slice Ex0 mx0 dx0, .slice Fx0 lx0 kx0, .int .i64 (yy0)] 51))
  replace u3 := Lib.hid (u3.out.alloc (by omega) (.cells #[.slice Ax0 nx0 cx0, .int .i64 (p0), .slice Ax0' nx0' cx0', .int .i64 (q0), .slice Ex0 mx0 dx0, .slice Fx0 lx0 kx0, .int .i64 (yy0)] 51))
  replace u4 := Lib.hid (u4.out.alloc (by omega) (.cells #[.slice Ax0 nx0 cx0, .int .i64 (p0), .slice Ax0' nx0' cx0', .int .i64 (q0), .slice Ex0 mx0 dx0, .slice Fx0 lx0 kx0, .int .i64 (yy0)] 51))
  replace Bu := Lib.hid (Bu.out.alloc (.cells #[.slice Ax0 nx0 cx0, .int .i64 (p0), .slice Ax0' nx0' cx0', .int .i64 (q0), .slice Ex0 mx0 dx0, .slice Fx0 lx0 kx0, .int .i64 (yy0)] 51))
  replace x01 := Lib.hid (x01.out.alloc (by omega) (.cells #[.slice Ax0 nx0 cx0, .int .i64 (p0), .slice Ax0' nx0' cx0', .int .i64 (q0), .slice Ex0 mx0 dx0, .slice Fx0 lx0 kx0, .int .i64 (yy0)] 51))
  replace x02 := Lib.hid (x02.out.alloc (by omega) (.cells #[.slice Ax0 nx0 cx0, .int .i64 (p0), .slice Ax0' nx0' cx0', .int .i64 (q0), .slice Ex0 mx0 dx0, .slice Fx0 lx0 kx0, .int .i64 (yy0)] 51))
  replace x03 := Lib.hid (x03.out.alloc (by omega) (.cells #[.slice Ax0 nx0 cx0, .int .i64 (p0), .slice Ax0' nx0' cx0', .int .i64 (q0), .slice Ex0 mx0 dx0, .slice Fx0 lx0 kx0, .int .i64 (yy0)] 51))
  replace x04 := Lib.hid (x04.out.alloc (by omega) (.cells #[.slice Ax0 nx0 cx0, .int .i64 (p0), .slice Ax0' nx0' cx0', .int .i64 (q0), .slice Ex0 mx0 dx0, .slice Fx0 lx0 kx0, .int .i64 (yy0)] 51))
  replace EB := Lib.hid (EB.out.alloc (by omega) (.cells #[.slice Ax0 nx0 cx0, .int .i64 (p0), .slice Ax0' nx0' cx0', .int .i64 (q0), .slice Ex0 mx0 dx0, .slice Fx0 lx0 kx0, .int .i64 (yy0)] 51))
  have Bx0 := Lib.hid (Box.new w5 51 [.slice Ax0 nx0 cx0, .int .i64 (p0), .slice Ax0' nx0' cx0', .int .i64 (q0), .slice Ex0 mx0 dx0, .slice Fx0 lx0 kx0, .int .i64 (yy0)])
  have s6 : w5.heap.size + 1 ≤ (w5.alloc (.cells #[.slice Ax0 nx0 cx0, .int .i64 (p0), .slice Ax0' nx0' cx0', .int .i64 (q0), .slice Ex0 mx0 dx0, .slice Fx0 lx0 kx0, .int .i64 (yy0)] 51)).heap.size := by simp
  generalize w5.alloc (.cells #[.slice Ax0 nx0 cx0, .int .i64 (p0), .slice Ax0' nx0' cx0', .int .i64 (q0), .slice Ex0 mx0 dx0, .slice Fx0 lx0 kx0, .int .i64 (yy0)] 51) = w6 at *
  refine (FlushBoth_x (HE.below EB.out (Nat.le_refl _)) EB.out.size x01.out x02.out x03.out x04.out (by omega) (by omega) (by omega) (by omega) hcx0 hcx0' hcx0'' hcx0''' hx0 hx0' hx0'' hx0''').mono ?_
  rintro e w7 ⟨Ag, ng, cg, Ag', ng', cg', Eg, mg, dg, Fg, lg, kg, rfl, ⟨hcg, hcg', hcg'', hcg'''⟩, hb, ⟨⟨⟨hd0, hd1, ha0, _, _⟩, hd2, ha1, ha2, _⟩, hd3, ha3, ha4, ha5⟩⟩
  (try simp only [World.size_alloc, World.size_setCell, World.size_drew] at hb)
  have HB := Lib.hid hb
  clear hb
  have s7 := HB.out.size
  (try simp only [World.size_alloc, World.size_setCell, World.size_drew] at s7)
  replace a01 := Lib.hid (a01.out.below HB.out (by omega))
  replace a02 := Lib.hid (a02.out.below HB.out (by omega))
  replace a03 := Lib.hid (a03.out.below HB.out (by omega))
  replace a04 := Lib.hid (a04.out.below HB.out (by omega))
  replace Ba0 := Lib.hid (Ba0.out.below HB.out (by omega))
  replace u1 := Lib.hid (u1.out.below HB.out (by omega))
  replace u2 := Lib.hid (u2.out.below HB.out (by omega))
  replace u3 := Lib.hid (u3.out.below HB.out (by omega))
  replace u4 := Lib.hid (u4.out.below HB.out (by omega))
  replace Bu := Lib.hid (Bu.out.below HB.out (by omega))
  replace x01 := Lib.hid (x01.out.below HB.out (by omega))
  replace x02 := Lib.hid (x02.out.below HB.out (by omega))
  replace x03 := Lib.hid (x03.out.below HB.out (by omega))
  replace x04 := Lib.hid (x04.out.below HB.out (by omega))
  replace Bx0 := Lib.hid (Bx0.out.below HB.out (by omega))
  replace EB := Lib.hid (below_step HB.out EB.out (by omega))
  clear HB
  have g1 := Lib.hid hd0
  have g2 := Lib.hid hd1
  have g3 := Lib.hid hd2
  have g4 := Lib.hid hd3
  clear hd0 hd1 hd2 hd3
  have g1_g2 := Lib.hid ha0
  clear ha0
  have g3_g1 := Lib.hid ha1
  clear ha1
  have g3_g2 := Lib.hid ha2
  clear ha2
  have g4_g1 := Lib.hid ha3
  clear ha3
  have g4_g2 := Lib.hid ha4
  clear ha4
  have g4_g3 := Lib.hid ha5
  clear ha5
  obtain ⟨hx0, hx1, hx2, hx3⟩ := fbOut_le D0 p0 S0 q0 R0 Q0 yy0
  have hl_g1 : ng ≤ 1048576 := by have := g1.out.len; omega
  have hl_g2 : ng' ≤ 1048576 := by have := g2.out.len; omega
  have hl_g3 : mg ≤ 1048576 := by have := g3.out.len; omega
  have hl_g4 : lg ≤ 1048576 := by have := g4.out.len; omega
  clear hx0 hx1 hx2 hx3
  have vul := Bu.out.lt
  have vu0 := (Bu.out.2 0 _ rfl).1
  have vu1 := (Bu.out.2 1 _ rfl).1
  have vu2 := (Bu.out.2 2 _ rfl).1
  have vu3 := (Bu.out.2 3 _ rfl).1
  have vu4 := (Bu.out.2 4 _ rfl).1
  have vu5 := (Bu.out.2 5 _ rfl).1
  have vu6 := (Bu.out.2 6 _ rfl).1
  go_wp2_with fail
  clear vul vu0 vu1 vu2 vu3 vu4 vu5 vu6
  replace a01 := Lib.hid (a01.out.alloc (by omega) (.cells #[.slice Ag ng cg, .int .i64 ((fbOut D0 p0 S0 q0 R0 Q0 yy0).1.p), .slice Ag' ng' cg', .int .i64 ((fbOut D0 p0 S0 q0 R0 Q0 yy0).1.q), .slice Eg mg dg, .slice Fg lg kg, .int .i64 ((fbOut D0 p0 S0 q0 R0 Q0 yy0).1.z)] 51))
  replace a02 := Lib.hid (a02.out.alloc (by omega) (.cells #[.slice Ag ng cg, .int .i64 ((fbOut D0 p0 S0 q0 R0 Q0 yy0).1.p), .slice Ag' ng' cg', .int .i64 ((fbOut D0 p0 S0 q0 R0 Q0 yy0).1.q), .slice Eg mg dg, .slice Fg lg kg, .int .i64 ((fbOut D0 p0 S0 q0 R0 Q0 yy0).1.z)] 51))
  replace a03 := Lib.hid (a03.out.alloc (by omega) (.cells #[.slice Ag ng cg, .int .i64 ((fbOut D0 p0 S0 q0 R0 Q0 yy0).1.p), .slice Ag' ng' cg', .int .i64 ((fbOut D0 p0 S0 q0 R0 Q0 yy0).1.q), .slice Eg mg dg, .slice Fg lg kg, .int .i64 ((fbOut D0 p0 S0 q0 R0 Q0 yy0).1.z)] 51))
  replace a04 := Lib.hid (a04.out.alloc (by omega) (.cells #[.slice Ag ng cg, .int .i64 ((fbOut D0 p0 S0 q0 R0 Q0 yy0).1.p), .slice Ag' ng' cg', .int .i64 ((fbOut D0 p0 S0 q0 R0 Q0 yy0).1.q), .slice Eg mg dg, .slice Fg lg kg, .int .i64 ((fbOut D0 p0 S0 q0 R0 Q0 yy0).1.z)] 51))
  replace Ba0 := Lib.hid (Ba0.out.alloc (.cells #[.slice Ag ng cg, .int .i64 ((fbOut D0 p0 S0 q0 R0 Q0 yy0).1.p), .slice Ag' ng' cg', .int .i64 ((fbOut D0 p0 S0 q0 R0 Q0 yy0).1.q), .slice Eg mg dg, .slice Fg lg kg, .int .i64 ((fbOut D0 p0 S0 q0 R0 Q0 yy0).1.z)] 51))
  replace u1 := Lib.hid (u1.out.alloc (by omega) (.cells #[.slice Ag ng cg, .int .i64 ((fbOut D0 p0 S0 q0 R0 Q0 yy0).1.p), .slice Ag' ng' cg', .int .i64 ((fbOut D0 p0 S0 q0 R0 Q0 yy0).1.q), .slice Eg mg dg, .slice Fg lg kg, .int .i64 ((fbOut D0 p0 S0 q0 R0 Q0 yy0).1.z)] 51))
  replace u2 := Lib.hid (u2.out.alloc (by omega) (.cells #[.slice Ag ng cg, .int .i64 ((fbOut D0 p0 S0 q0 R0 Q0 yy0).1.p), .slice Ag' ng' cg', .int .i64 ((fbOut D0 p0 S0 q0 R0 Q0 yy0).1.q), .slice Eg mg dg, .slice Fg lg kg, .int .i64 ((fbOut D0 p0 S0 q0 R0 Q0 yy0).1.z)] 51))
  replace u3 := Lib.hid (u3.out.alloc (by omega) (.cells #[.slice Ag ng cg, .int .i64 ((fbOut D0 p0 S0 q0 R0 Q0 yy0).1.p), .slice Ag' ng' cg', .int .i64 ((fbOut D0 p0 S0 q0 R0 Q0 yy0).1.q), .slice Eg mg dg, .slice Fg lg kg, .int .i64 ((fbOut D0 p0 S0 q0 R0 Q0 yy0).1.z)] 51))
  replace u4 := Lib.hid (u4.out.alloc (by omega) (.cells #[.slice Ag ng cg, .int .i64 ((fbOut D0 p0 S0 q0 R0 Q0 yy0).1.p), .slice Ag' ng' cg', .int .i64 ((fbOut D0 p0 S0 q0 R0 Q0 yy0).1.q), .slice Eg mg dg, .slice Fg lg kg, .int .i64 ((fbOut D0 p0 S0 q0 R0 Q0 yy0).1.z)] 51))
  replace Bu := Lib.hid (Bu.out.alloc (.cells #[.slice Ag ng cg, .int .i64 ((fbOut D0 p0 S0 q0 R0 Q0 yy0).1.p), .slice Ag' ng' cg', .int .i64 ((fbOut D0 p0 S0 q0 R0 Q0 yy0).1.q), .slice Eg mg dg, .slice Fg lg kg, .int .i64 ((fbOut D0 p0 S0 q0 R0 Q0 yy0).1.z)] 51))
  replace x01 := Lib.hid (x01.out.alloc (by omega) (.cells #[.slice Ag ng cg, .int .i64 ((fbOut D0 p0 S0 q0 R0 Q0 yy0).1.p), .slice Ag' ng' cg', .int .i64 ((fbOut D0 p0 S0 q0 R0 Q0 yy0).1.q), .slice Eg mg dg, .slice Fg lg kg, .int .i64 ((fbOut D0 p0 S0 q0 R0 Q0 yy0).1.z)] 51))
  replace x02 := Lib.hid (x02.out.alloc (by omega) (.cells #[.slice Ag ng cg, .int .i64 ((fbOut D0 p0 S0 q0 R0 Q0 yy0).1.p), .slice Ag' ng' cg', .int .i64 ((fbOut D0 p0 S0 q0 R0 Q0 yy0).1.q), .slice Eg mg dg, .slice Fg lg kg, .int .i64 ((fbOut D0 p0 S0 q0 R0 Q0 yy0).1.z)] 51))
  replace x03 := Lib.hid (x03.out.alloc (by omega) (.cells #[.slice Ag ng cg, .int .i64 ((fbOut D0 p0 S0 q0 R0 Q0 yy0).1.p), .slice Ag' ng' cg', .int .i64 ((fbOut D0 p0 S0 q0 R0 Q0 yy0).1.q), .slice Eg mg dg, .slice Fg lg kg, .int .i64 ((fbOut D0 p0 S0 q0 R0 Q0 yy0).1.z)] 51))
  replace x04 := Lib.hid (x04.out.alloc (by omega) (.cells #[.slice Ag ng cg, .int .i64 ((fbOut D0 p0 S0 q0 R0 Q0 yy0).1.p), .slice Ag' ng' cg', .int .i64 ((fbOut D0 p0 S0 q0 R0 Q0 yy0).1.q), .slice Eg mg dg, .slice Fg lg kg, .int .i64 ((fbOut D0 p0 S0 q0 R0 Q0 yy0).1.z)] 51))
  replace Bx0 := Lib.hid (Bx0.out.alloc (.cells #[.slice Ag ng cg, .int .i64 ((fbOut D0 p0 S0 q0 R0 Q0 yy0).1.p), .slice Ag' ng' cg', .int .i64 ((fbOut D0 p0 S0 q0 R0 Q0 yy0).1.q), .slice Eg mg dg, .slice Fg lg kg, .int .i64 ((fbOut D0 p0 S0 q0 R0 Q0 yy0).1.z)] 51))
  replace g1 := Lib.hid (g1.out.alloc (by omega) (.cells #[.slice Ag ng cg, .int .i64 ((fbOut D0 p0 S0 q0 R0 Q0 yy0).1.p), .slice Ag' ng' cg', .int .i64 ((fbOut D0 p0 S0 q0 R0 Q0 yy0).1.q), .slice Eg mg dg, .slice Fg lg kg, .int .i64 ((fbOut D0 p0 S0 q0 R0 Q0 yy0).1.z)] 51))
  replace g2 := Lib.hid (g2.out.alloc (by omega) (.cells #[.slice Ag ng cg, .int .i64 ((fbOut D0 p0 S0 q0 R0 Q0 yy0).1.p), .slice Ag' ng' cg', .int .i64 ((fbOut D0 p0 S0 q0 R0 Q0 yy0).1.q), .slice Eg mg dg, .slice Fg lg kg, .int .i64 ((fbOut D0 p0 S0 q0 R0 Q0 yy0).1.z)] 51))
  replace g3 := Lib.hid (g3.out.alloc (by omega) (.cells #[.slice Ag ng cg, .int .i64 ((fbOut D0 p0 S0 q0 R0 Q0 yy0).1.p), .slice Ag' ng' cg', .int .i64 ((fbOut D0 p0 S0 q0 R0 Q0 yy0).1.q), .slice Eg mg dg, .slice Fg lg kg, .int .i64 ((fbOut D0 p0 S0 q0 R0 Q0 yy0).1.z)] 51))
  replace g4 := Lib.hid (g4.out.alloc (by omega) (.cells #[.slice Ag ng cg, .int .i64 ((fbOut D0 p0 S0 q0 R0 Q0 yy0).1.p), .slice Ag' ng' cg', .int .i64 ((fbOut D0 p0 S0 q0 R0 Q0 yy0).1.q), .slice Eg mg dg, .slice Fg lg kg, .int .i64 ((fbOut D0 p0 S0 q0 R0 Q0 yy0).1.z)] 51))
  replace EB := Lib.hid (EB.out.alloc (by omega) (.cells #[.slice Ag ng cg, .int .i64 ((fbOut D0 p0 S0 q0 R0 Q0 yy0).1.p), .slice Ag' ng' cg', .int .i64 ((fbOut D0 p0 S0 q0 R0 Q0 yy0).1.q), .slice Eg mg dg, .slice Fg lg kg, .int .i64 ((fbOut D0 p0 S0 q0 R0 Q0 yy0).1.z)] 51))
  have Bg := Lib.hid (Box.new w7 51 [.slice Ag ng cg, .int .i64 ((fbOut D0 p0 S0 q0 R0 Q0 yy0).1.p), .slice Ag' ng' cg', .int .i64 ((fbOut D0 p0 S0 q0 R0 Q0 yy0).1.q), .slice Eg mg dg, .slice Fg lg kg, .int .i64 ((fbOut D0 p0 S0 q0 R0 Q0 yy0).1.z)])
  have s8 : w7.heap.size + 1 ≤ (w7.alloc (.cells #[.slice Ag ng cg, .int .i64 ((fbOut D0 p0 S0 q0 R0 Q0 yy0).1.p), .slice Ag' ng' cg', .int .i64 ((fbOut D0 p0 S0 q0 R0 Q0 yy0).1.q), .slice Eg mg dg, .slice Fg lg kg, .int .i64 ((fbOut D0 p0 S0 q0 R0 Q0 yy0).1.z)] 51)).heap.size := by simp
  generalize w7.alloc (.cells #[.slice Ag ng cg, .int .i64 ((fbOut D0 p0 S0 q0 R0 Q0 yy0).1.p), .slice Ag' ng' cg', .int .i64 ((fbOut D0 p0 S0 q0 R0 Q0 yy0).1.q), .slice Eg mg dg, .slice Fg lg kg, .int .i64 ((fbOut D0 p0 S0 q0 R0 Q0 yy0).1.z)] 51) = w8 at *
  refine (eqBoth_same g1.out g2.out g3.out g4.out u1.out u2.out u3.out u4.out (by omega) (by omega) (by omega) (by omega) (by omega) (by omega) (by omega) (by omega)).mono ?_
  rintro e w9 ⟨rfl, hb⟩
  (try simp only [World.size_alloc, World.size_setCell, World.size_drew] at hb)
  have HB := Lib.hid hb
  clear hb
  have s9 := HB.out.size
  (try simp only [World.size_alloc, World.size_setCell, World.size_drew] at s9)
  replace a01 := Lib.hid (a01.out.below HB.out (by omega))
  replace a02 := Lib.hid (a02.out.below HB.out (by omega))
  replace a03 := Lib.hid (a03.out.below HB.out (by omega))
  replace a04 := Lib.hid (a04.out.below HB.out (by omega))
  replace Ba0 := Lib.hid (Ba0.out.below HB.out (by omega))
  replace u1 := Lib.hid (u1.out.below HB.out (by omega))
  replace u2 := Lib.hid (u2.out.below HB.out (by omega))
  replace u3 := Lib.hid (u3.out.below HB.out (by omega))
  replace u4 := Lib.hid (u4.out.below HB.out (by omega))
  replace Bu := Lib.hid (Bu.out.below HB.out (by omega))
  replace x01 := Lib.hid (x01.out.below HB.out (by omega))
  replace x02 := Lib.hid (x02.out.below HB.out (by omega))
  replace x03 := Lib.hid (x03.out.below HB.out (by omega))
  replace x04 := Lib.hid (x04.out.below HB.out (by omega))
  replace Bx0 := Lib.hid (Bx0.out.below HB.out (by omega))
  replace g1 := Lib.hid (g1.out.below HB.out (by omega))
  replace g2 := Lib.hid (g2.out.below HB.out (by omega))
  replace g3 := Lib.hid (g3.out.below HB.out (by omega))
  replace g4 := Lib.hid (g4.out.below HB.out (by omega))
  replace Bg := Lib.hid (Bg.out.below HB.out (by omega))
  replace EB := Lib.hid (below_step HB.out EB.out (by omega))
  clear HB
  have va0l := Ba0.out.lt
  have va00 := (Ba0.out.2 0 _ rfl).1
  have va01 := (Ba0.out.2 1 _ rfl).1
  have va02 := (Ba0.out.2 2 _ rfl).1
  have va03 := (Ba0.out.2 3 _ rfl).1
  have va04 := (Ba0.out.2 4 _ rfl).1
  have va05 := (Ba0.out.2 5 _ rfl).1
  have va06 := (Ba0.out.2 6 _ rfl).1
  have vx0l := Bx0.out.lt
  have vx00 := (Bx0.out.2 0 _ rfl).1
  have vx01 := (Bx0.out.2 1 _ rfl).1
  have vx02 := (Bx0.out.2 2 _ rfl).1
  have vx03 := (Bx0.out.2 3 _ rfl).1
  have vx04 := (Bx0.out.2 4 _ rfl).1
  have vx05 := (Bx0.out.2 5 _ rfl).1
  have vx06 := (Bx0.out.2 6 _ rfl).1
  go_wp2_with fail
  clear va0l va00 va01 va02 va03 va04 va05 va06 vx0l vx00 vx01 vx02 vx03 vx04 vx05 vx06
  have EC := Lib.hid EB.out
  have xl := Ba0.out.lt
  have x0 := (Ba0.out.2 0 _ rfl).1
  have x1 := (Ba0.out.2 1 _ rfl).1
  have x2 := (Ba0.out.2 2 _ rfl).1
  have x3 := (Ba0.out.2 3 _ rfl).1
  have x4 := (Ba0.out.2 4 _ rfl).1
  have x5 := (Ba0.out.2 5 _ rfl).1
  have x6 := (Ba0.out.2 6 _ rfl).1
  have yl := Bx0.out.lt
  have y0 := (Bx0.out.2 0 _ rfl).1
  have y1 := (Bx0.out.2 1 _ rfl).1
  have y2 := (Bx0.out.2 2 _ rfl).1
  have y3 := (Bx0.out.2 3 _ rfl).1
  have y4 := (Bx0.out.2 4 _ rfl).1
  have y5 := (Bx0.out.2 5 _ rfl).1
  have y6 := (Bx0.out.2 6 _ rfl).1
  go_region_held3 (fun w' => (w'.cell? ⟨w.heap.size, 0, none⟩ = some (.slice A0 n0 c0) ∧ w'.cell? ⟨w.heap.size, 1, none⟩ = some (.int .i64 (p0)) ∧ w'.cell? ⟨w.heap.size, 2, none⟩ = some (.slice A0' n0' c0') ∧ w'.cell? ⟨w.heap.size, 3, none⟩ = some (.int .i64 (q0)) ∧ w'.cell? ⟨w.heap.size, 4, none⟩ = some (.slice E0 m0 d0) ∧ w'.cell? ⟨w.heap.size, 5, none⟩ = some (.slice F0 l0 k0) ∧ w'.cell? ⟨w.heap.size, 6, none⟩ = some (.int .i64 (yy0))) ∧ (w'.cell? ⟨w5.heap.size, 0, none⟩ = some (.slice Ax0 nx0 cx0) ∧ w'.cell? ⟨w5.heap.size, 1, none⟩ = some (.int .i64 (p0)) ∧ w'.cell? ⟨w5.heap.size, 2, none⟩ = some (.slice Ax0' nx0' cx0') ∧ w'.cell? ⟨w5.heap.size, 3, none⟩ = some (.int .i64 (q0)) ∧ w'.cell? ⟨w5.heap.size, 4, none⟩ = some (.slice Ex0 mx0 dx0) ∧ w'.cell? ⟨w5.heap.size, 5, none⟩ = some (.slice Fx0 lx0 kx0) ∧ w'.cell? ⟨w5.heap.size, 6, none⟩ = some (.int .i64 (yy0)))) (go_keep)
    (first | (go_at_call 33; refine (toBoth_any a01.out.drew a02.out.drew a03.out.drew a04.out.drew (by first | omega | (simp; omega) | (simp; done)) (by first | omega | (simp; omega) | (simp; done)) (by first | omega | (simp; omega) | (simp; done)) (by first | omega | (simp; omega) | (simp; done)) hs0 hs0' hs0'' hs0''' hp0 hq0 hy0).mono ?_; rintro e w10 ⟨Ak, nk, ck, Ak', nk', ck', Ek, mk, dk, Fk, lk, kk, rfl, ⟨_, _, _, _⟩, hb, ⟨⟨⟨hd0, hd1, _, _, _⟩, hd2, _, _, _⟩, hd3, _, _, _⟩⟩; (try simp only [World.size_alloc, World.size_setCell, World.size_drew] at hb hd0 hd1 hd2 hd3); have HB := Lib.hid hb; have HK1 := Lib.hid hd0; have HK2 := Lib.hid hd1; have HK3 := Lib.hid hd2; have HK4 := Lib.hid hd3; have sa := hb.size; (try simp only [World.size_alloc, World.size_setCell, World.size_drew] at sa); have BA := Lib.hid (Ba0.out.drew.below hb (by omega)); have BX := Lib.hid (Bx0.out.drew.below hb (by omega)); clear hb hd0 hd1 hd2 hd3; have x0 := (BA.out.2 0 _ rfl).1; have x1 := (BA.out.2 1 _ rfl).1; have x2 := (BA.out.2 2 _ rfl).1; have x3 := (BA.out.2 3 _ rfl).1; have x4 := (BA.out.2 4 _ rfl).1; have x5 := (BA.out.2 5 _ rfl).1; have x6 := (BA.out.2 6 _ rfl).1; have y0 := (BX.out.2 0 _ rfl).1; have y1 := (BX.out.2 1 _ rfl).1; have y2 := (BX.out.2 2 _ rfl).1; have y3 := (BX.out.2 3 _ rfl).1; have y4 := (BX.out.2 4 _ rfl).1; have y5 := (BX.out.2 5 _ rfl).1; have y6 := (BX.out.2 6 _ rfl).1) | (go_at_call 35; refine (eqBoth_same (x01.out.drew.below HB.out (by omega)) (x02.out.drew.below HB.out (by omega)) (x03.out.drew.below HB.out (by omega)) (x04.out.drew.below HB.out (by omega)) HK1.out HK2.out HK3.out HK4.out (by omega) (by omega) (by omega) (by omega) (by omega) (by omega) (by omega) (by omega)).mono ?_; rintro e w11 ⟨rfl, hb⟩; have HC := Lib.hid hb; have sb := hb.size; have CA := Lib.hid (BA.out.below hb (by omega)); have CX := Lib.hid (BX.out.below hb (by omega)); clear hb; have x0 := (CA.out.2 0 _ rfl).1; have x1 := (CA.out.2 1 _ rfl).1; have x2 := (CA.out.2 2 _ rfl).1; have x3 := (CA.out.2 3 _ rfl).1; have x4 := (CA.out.2 4 _ rfl).1; have x5 := (CA.out.2 5 _ rfl).1; have x6 := (CA.out.2 6 _ rfl).1; have y0 := (CX.out.2 0 _ rfl).1; have y1 := (CX.out.2 1 _ rfl).1; have y2 := (CX.out.2 2 _ rfl).1; have y3 := (CX.out.2 3 _ rfl).1; have y4 := (CX.out.2 4 _ rfl).1; have y5 := (CX.out.2 5 _ rfl).1; have y6 := (CX.out.2 6 _ rfl).1))
  have HD : Hid (Below w9.heap.size w9 w11) := below_step HC.out (below_step HB.out (Below.refl _ _).drew (by simp)) (by omega)
  have s11 := HD.out.size
  clear xl x0 x1 x2 x3 x4 x5 x6 yl y0 y1 y2 y3 y4 y5 y6
  replace a01 := Lib.hid (a01.out.below HD.out (by omega))
  replace a02 := Lib.hid (a02.out.below HD.out (by omega))
  replace a03 := Lib.hid (a03.out.below HD.out (by omega))
  replace a04 := Lib.hid (a04.out.below HD.out (by omega))
  replace Ba0 := Lib.hid (Ba0.out.below HD.out (by omega))
  replace u1 := Lib.hid (u1.out.below HD.out (by omega))
  replace u2 := Lib.hid (u2.out.below HD.out (by omega))
  replace u3 := Lib.hid (u3.out.below HD.out (by omega))
  replace u4 := Lib.hid (u4.out.below HD.out (by omega))
  replace Bu := Lib.hid (Bu.out.below HD.out (by omega))
  replace x01 := Lib.hid (x01.out.below HD.out (by omega))
  replace x02 := Lib.hid (x02.out.below HD.out (by omega))
  replace x03 := Lib.hid (x03.out.below HD.out (by omega))
  replace x04 := Lib.hid (x04.out.below HD.out (by omega))
  replace Bx0 := Lib.hid (Bx0.out.below HD.out (by omega))
  replace g1 := Lib.hid (g1.out.below HD.out (by omega))
  replace g2 := Lib.hid (g2.out.below HD.out (by omega))
  replace g3 := Lib.hid (g3.out.below HD.out (by omega))
  replace g4 := Lib.hid (g4.out.below HD.out (by omega))
  replace Bg := Lib.hid (Bg.out.below HD.out (by omega))
  replace EB := Lib.hid (below_step HD.out EB.out (by omega))
  clear HB HC HD HK1 HK2 HK3 HK4 BA BX CA CX
  have vx0l := Bx0.out.lt
  have vx00 := (Bx0.out.2 0 _ rfl).1
  have vx01 := (Bx0.out.2 1 _ rfl).1
  have vx02 := (Bx0.out.2 2 _ rfl).1
  have vx03 := (Bx0.out.2 3 _ rfl).1
  have vx04 := (Bx0.out.2 4 _ rfl).1
  have vx05 := (Bx0.out.2 5 _ rfl).1
  have vx06 := (Bx0.out.2 6 _ rfl).1
  go_wp2_with fail
  refine (markBoth_any x01.out x02.out x03.out x04.out x01_x02.out x03_x01.out x03_x02.out x04_x01.out x04_x02.out x04_x03.out (by omega) (by omega) (by omega) (by omega) (by omega) (by omega) hx0 hx0' hx0'' hx0''').mono ?_
  clear vx0l vx00 vx01 vx02 vx03 vx04 vx05 vx06
  rintro e w12 ⟨rfl, hm, hi0, hi1, hi2, hi3⟩
  have HM := Lib.hid hm
  have s12 := HM.out.size
  clear hm
  replace EB := Lib.hid (below_markB EB.out HM.out x01.out x02.out x03.out x04.out (by omega) (by omega) (by omega) (by omega) (by omega))
  replace a01 := Lib.hid (a01.out.markB HM.out (by omega) (Apart.of_le a01.out x01.out (by omega)).symm (Apart.of_le a01.out x02.out (by omega)).symm (Apart.of_le a01.out x03.out (by omega)).symm (Apart.of_le a01.out x04.out (by omega)).symm)
  replace a02 := Lib.hid (a02.out.markB HM.out (by omega) (Apart.of_le a02.out x01.out (by omega)).symm (Apart.of_le a02.out x02.out (by omega)).symm (Apart.of_le a02.out x03.out (by omega)).symm (Apart.of_le a02.out x04.out (by omega)).symm)
  replace a03 := Lib.hid (a03.out.markB HM.out (by omega) (Apart.of_le a03.out x01.out (by omega)).symm (Apart.of_le a03.out x02.out (by omega)).symm (Apart.of_le a03.out x03.out (by omega)).symm (Apart.of_le a03.out x04.out (by omega)).symm)
  replace a04 := Lib.hid (a04.out.markB HM.out (by omega) (Apart.of_le a04.out x01.out (by omega)).symm (Apart.of_le a04.out x02.out (by omega)).symm (Apart.of_le a04.out x03.out (by omega)).symm (Apart.of_le a04.out x04.out (by omega)).symm)
  replace Ba0 := Lib.hid (Ba0.out.markB HM.out x01.out x02.out x03.out x04.out (by omega) (by omega) (by omega) (by omega))
  replace u1 := Lib.hid (u1.out.markB HM.out (by omega) (Apart.of_le u1.out x01.out (by omega)).symm (Apart.of_le u1.out x02.out (by omega)).symm (Apart.of_le u1.out x03.out (by omega)).symm (Apart.of_le u1.out x04.out (by omega)).symm)
  replace u2 := Lib.hid (u2.out.markB HM.out (by omega) (Apart.of_le u2.out x01.out (by omega)).symm (Apart.of_le u2.out x02.out (by omega)).symm (Apart.of_le u2.out x03.out (by omega)).symm (Apart.of_le u2.out x04.out (by omega)).symm)
  replace u3 := Lib.hid (u3.out.markB HM.out (by omega) (Apart.of_le u3.out x01.out (by omega)).symm (Apart.of_le u3.out x02.out (by omega)).symm (Apart.of_le u3.out x03.out (by omega)).symm (Apart.of_le u3.out x04.out (by omega)).symm)
  replace u4 := Lib.hid (u4.out.markB HM.out (by omega) (Apart.of_le u4.out x01.out (by omega)).symm (Apart.of_le u4.out x02.out (by omega)).symm (Apart.of_le u4.out x03.out (by omega)).symm (Apart.of_le u4.out x04.out (by omega)).symm)
  replace Bu := Lib.hid (Bu.out.markB HM.out x01.out x02.out x03.out x04.out (by omega) (by omega) (by omega) (by omega))
  replace Bx0 := Lib.hid (Bx0.out.markB HM.out x01.out x02.out x03.out x04.out (by omega) (by omega) (by omega) (by omega))
  replace g1 := Lib.hid (g1.out.markB HM.out (by omega) (Apart.of_le x01.out g1.out (by omega)) (Apart.of_le x02.out g1.out (by omega)) (Apart.of_le x03.out g1.out (by omega)) (Apart.of_le x04.out g1.out (by omega)))
  replace g2 := Lib.hid (g2.out.markB HM.out (by omega) (Apart.of_le x01.out g2.out (by omega)) (Apart.of_le x02.out g2.out (by omega)) (Apart.of_le x03.out g2.out (by omega)) (Apart.of_le x04.out g2.out (by omega)))
  replace g3 := Lib.hid (g3.out.markB HM.out (by omega) (Apart.of_le x01.out g3.out (by omega)) (Apart.of_le x02.out g3.out (by omega)) (Apart.of_le x03.out g3.out (by omega)) (Apart.of_le x04.out g3.out (by omega)))
  replace g4 := Lib.hid (g4.out.markB HM.out (by omega) (Apart.of_le x01.out g4.out (by omega)) (Apart.of_le x02.out g4.out (by omega)) (Apart.of_le x03.out g4.out (by omega)) (Apart.of_le x04.out g4.out (by omega)))
  replace Bg := Lib.hid (Bg.out.markB HM.out x01.out x02.out x03.out x04.out (by omega) (by omega) (by omega) (by omega))
  replace x01 := Lib.hid hi0
  replace x02 := Lib.hid hi1
  replace x03 := Lib.hid hi2
  replace x04 := Lib.hid hi3
  clear HM hi0 hi1 hi2 hi3
  clear x01 x02 x03 x04 Bx0
  have vgl := Bg.out.lt
  have vg0 := (Bg.out.2 0 _ rfl).1
  have vg1 := (Bg.out.2 1 _ rfl).1
  have vg2 := (Bg.out.2 2 _ rfl).1
  have vg3 := (Bg.out.2 3 _ rfl).1
  have vg4 := (Bg.out.2 4 _ rfl).1
  have vg5 := (Bg.out.2 5 _ rfl).1
  have vg6 := (Bg.out.2 6 _ rfl).1
  have vul := Bu.out.lt
  have vu0 := (Bu.out.2 0 _ rfl).1
  have vu1 := (Bu.out.2 1 _ rfl).1
  have vu2 := (Bu.out.2 2 _ rfl).1
  have vu3 := (Bu.out.2 3 _ rfl).1
  have vu4 := (Bu.out.2 4 _ rfl).1
  have vu5 := (Bu.out.2 5 _ rfl).1
  have vu6 := (Bu.out.2 6 _ rfl).1
  go_wp2_with fail
  refine (eqBoth_same g1.out g2.out g3.out g4.out u1.out u2.out u3.out u4.out (by omega) (by omega) (by omega) (by omega) (by omega) (by omega) (by omega) (by omega)).mono ?_
  clear vgl vg0 vg1 vg2 vg3 vg4 vg5 vg6 vul vu0 vu1 vu2 vu3 vu4 vu5 vu6
  rintro e w13 ⟨rfl, hb⟩
  (try simp only [World.size_alloc, World.size_setCell, World.size_drew] at hb)
  have HB := Lib.hid hb
  clear hb
  have s13 := HB.out.size
  (try simp only [World.size_alloc, World.size_setCell, World.size_drew] at s13)
  replace a01 := Lib.hid (a01.out.below HB.out (by omega))
  replace a02 := Lib.hid (a02.out.below HB.out (by omega))
  replace a03 := Lib.hid (a03.out.below HB.out (by omega))
  replace a04 := Lib.hid (a04.out.below HB.out (by omega))
  replace Ba0 := Lib.hid (Ba0.out.below HB.out (by omega))
  replace u1 := Lib.hid (u1.out.below HB.out (by omega))
  replace u2 := Lib.hid (u2.out.below HB.out (by omega))
  replace u3 := Lib.hid (u3.out.below HB.out (by omega))
  replace u4 := Lib.hid (u4.out.below HB.out (by omega))
  replace Bu := Lib.hid (Bu.out.below HB.out (by omega))
  replace g1 := Lib.hid (g1.out.below HB.out (by omega))
  replace g2 := Lib.hid (g2.out.below HB.out (by omega))
  replace g3 := Lib.hid (g3.out.below HB.out (by omega))
  replace g4 := Lib.hid (g4.out.below HB.out (by omega))
  replace Bg := Lib.hid (Bg.out.below HB.out (by omega))
  replace EB := Lib.hid (below_step HB.out EB.out (by omega))
  clear HB
  have vgl := Bg.out.lt
  have vg0 := (Bg.out.2 0 _ rfl).1
  have vg1 := (Bg.out.2 1 _ rfl).1
  have vg2 := (Bg.out.2 2 _ rfl).1
  have vg3 := (Bg.out.2 3 _ rfl).1
  have vg4 := (Bg.out.2 4 _ rfl).1
  have vg5 := (Bg.out.2 5 _ rfl).1
  have vg6 := (Bg.out.2 6 _ rfl).1
  go_wp2_with fail
  refine (markBoth_any g1.out g2.out g3.out g4.out g1_g2.out g3_g1.out g3_g2.out g4_g1.out g4_g2.out g4_g3.out (by omega) (by omega) (by omega) (by omega) (by omega) (by omega) hl_g1 hl_g2 hl_g3 hl_g4).mono ?_
  clear vgl vg0 vg1 vg2 vg3 vg4 vg5 vg6
  rintro e w14 ⟨rfl, hm, hi0, hi1, hi2, hi3⟩
  have HM := Lib.hid hm
  have s14 := HM.out.size
  clear hm
  replace EB := Lib.hid (below_markB EB.out HM.out g1.out g2.out g3.out g4.out (by omega) (by omega) (by omega) (by omega) (by omega))
  replace a01 := Lib.hid (a01.out.markB HM.out (by omega) (Apart.of_le a01.out g1.out (by omega)).symm (Apart.of_le a01.out g2.out (by omega)).symm (Apart.of_le a01.out g3.out (by omega)).symm (Apart.of_le a01.out g4.out (by omega)).symm)
  replace a02 := Lib.hid (a02.out.markB HM.out (by omega) (Apart.of_le a02.out g1.out (by omega)).symm (Apart.of_le a02.out g2.out (by omega)).symm (Apart.of_le a02.out g3.out (by omega)).symm (Apart.of_le a02.out g4.out (by omega)).symm)
  replace a03 := Lib.hid (a03.out.markB HM.out (by omega) (Apart.of_le a03.out g1.out (by omega)).symm (Apart.of_le a03.out g2.out (by omega)).symm (Apart.of_le a03.out g3.out (by omega)).symm (Apart.of_le a03.out g4.out (by omega)).symm)
  replace a04 := Lib.hid (a04.out.markB HM.out (by omega) (Apart.of_le a04.out g1.out (by omega)).symm (Apart.of_le a04.out g2.out (by omega)).symm (Apart.of_le a04.out g3.out (by omega)).symm (Apart.of_le a04.out g4.out (by omega)).symm)
  replace Ba0 := Lib.hid (Ba0.out.markB HM.out g1.out g2.out g3.out g4.out (by omega) (by omega) (by omega) (by omega))
  replace u1 := Lib.hid (u1.out.markB HM.out (by omega) (Apart.of_le u1.out g1.out (by omega)).symm (Apart.of_le u1.out g2.out (by omega)).symm (Apart.of_le u1.out g3.out (by omega)).symm (Apart.of_le u1.out g4.out (by omega)).symm)
  replace u2 := Lib.hid (u2.out.markB HM.out (by omega) (Apart.of_le u2.out g1.out (by omega)).symm (Apart.of_le u2.out g2.out (by omega)).symm (Apart.of_le u2.out g3.out (by omega)).symm (Apart.of_le u2.out g4.out (by omega)).symm)
  replace u3 := Lib.hid (u3.out.markB HM.out (by omega) (Apart.of_le u3.out g1.out (by omega)).symm (Apart.of_le u3.out g2.out (by omega)).symm (Apart.of_le u3.out g3.out (by omega)).symm (Apart.of_le u3.out g4.out (by omega)).symm)
  replace u4 := Lib.hid (u4.out.markB HM.out (by omega) (Apart.of_le u4.out g1.out (by omega)).symm (Apart.of_le u4.out g2.out (by omega)).symm (Apart.of_le u4.out g3.out (by omega)).symm (Apart.of_le u4.out g4.out (by omega)).symm)
  replace Bu := Lib.hid (Bu.out.markB HM.out g1.out g2.out g3.out g4.out (by omega) (by omega) (by omega) (by omega))
  replace Bg := Lib.hid (Bg.out.markB HM.out g1.out g2.out g3.out g4.out (by omega) (by omega) (by omega) (by omega))
  replace g1 := Lib.hid hi0
  replace g2 := Lib.hid hi1
  replace g3 := Lib.hid hi2
  replace g4 := Lib.hid hi3
  clear HM hi0 hi1 hi2 hi3
  have vgl := Bg.out.lt
  have vg0 := (Bg.out.2 0 _ rfl).1
  have vg1 := (Bg.out.2 1 _ rfl).1
  have vg2 := (Bg.out.2 2 _ rfl).1
  have vg3 := (Bg.out.2 3 _ rfl).1
  have vg4 := (Bg.out.2 4 _ rfl).1
  have vg5 := (Bg.out.2 5 _ rfl).1
  have vg6 := (Bg.out.2 6 _ rfl).1
  go_wp2_with fail
  refine (heldBoth_any g1.out g2.out g3.out g4.out (by omega) (by omega) (by omega) (by omega) (by omega) (by omega) hl_g1 hl_g2 hl_g3 hl_g4).mono ?_
  clear vgl vg0 vg1 vg2 vg3 vg4 vg5 vg6
  rintro e w15 ⟨rfl, hb⟩
  (try simp only [World.size_alloc, World.size_setCell, World.size_drew] at hb)
  have HB := Lib.hid hb
  clear hb
  have s15 := HB.out.size
  (try simp only [World.size_alloc, World.size_setCell, World.size_drew] at s15)
  replace a01 := Lib.hid (a01.out.below HB.out (by omega))
  replace a02 := Lib.hid (a02.out.below HB.out (by omega))
  replace a03 := Lib.hid (a03.out.below HB.out (by omega))
  replace a04 := Lib.hid (a04.out.below HB.out (by omega))
  replace Ba0 := Lib.hid (Ba0.out.below HB.out (by omega))
  replace u1 := Lib.hid (u1.out.below HB.out (by omega))
  replace u2 := Lib.hid (u2.out.below HB.out (by omega))
  replace u3 := Lib.hid (u3.out.below HB.out (by omega))
  replace u4 := Lib.hid (u4.out.below HB.out (by omega))
  replace Bu := Lib.hid (Bu.out.below HB.out (by omega))
  replace g1 := Lib.hid (g1.out.below HB.out (by omega))
  replace g2 := Lib.hid (g2.out.below HB.out (by omega))
  replace g3 := Lib.hid (g3.out.below HB.out (by omega))
  replace g4 := Lib.hid (g4.out.below HB.out (by omega))
  replace Bg := Lib.hid (Bg.out.below HB.out (by omega))
  replace EB := Lib.hid (below_step HB.out EB.out (by omega))
  clear HB
  have va0l := Ba0.out.lt
  have va00 := (Ba0.out.2 0 _ rfl).1
  have va01 := (Ba0.out.2 1 _ rfl).1
  have va02 := (Ba0.out.2 2 _ rfl).1
  have va03 := (Ba0.out.2 3 _ rfl).1
  have va04 := (Ba0.out.2 4 _ rfl).1
  have va05 := (Ba0.out.2 5 _ rfl).1
  have va06 := (Ba0.out.2 6 _ rfl).1
  go_wp2_with fail
  refine (toBoth_any a01.out a02.out a03.out a04.out (by omega) (by omega) (by omega) (by omega) hs0 hs0' hs0'' hs0''' hp0 hq0 hy0).mono ?_
  clear va0l va00 va01 va02 va03 va04 va05 va06
  rintro e w16 ⟨Ar0, nr0, cr0, Ar0', nr0', cr0', Er0, mr0, dr0, Fr0, lr0, kr0, rfl, ⟨hcr0, hcr0', hcr0'', hcr0'''⟩, hb, ⟨⟨⟨hd0, hd1, ha0, _, _⟩, hd2, ha1, ha2, _⟩, hd3, ha3, ha4, ha5⟩⟩
  (try simp only [World.size_alloc, World.size_setCell, World.size_drew] at hb)
  have HB := Lib.hid hb
  clear hb
  have s16 := HB.out.size
  (try simp only [World.size_alloc, World.size_setCell, World.size_drew] at s16)
  replace a01 := Lib.hid (a01.out.below HB.out (by omega))
  replace a02 := Lib.hid (a02.out.below HB.out (by omega))
  replace a03 := Lib.hid (a03.out.below HB.out (by omega))
  replace a04 := Lib.hid (a04.out.below HB.out (by omega))
  replace Ba0 := Lib.hid (Ba0.out.below HB.out (by omega))
  replace u1 := Lib.hid (u1.out.below HB.out (by omega))
  replace u2 := Lib.hid (u2.out.below HB.out (by omega))
  replace u3 := Lib.hid (u3.out.below HB.out (by omega))
  replace u4 := Lib.hid (u4.out.below HB.out (by omega))
  replace Bu := Lib.hid (Bu.out.below HB.out (by omega))
  replace g1 := Lib.hid (g1.out.below HB.out (by omega))
  replace g2 := Lib.hid (g2.out.below HB.out (by omega))
  replace g3 := Lib.hid (g3.out.below HB.out (by omega))
  replace g4 := Lib.hid (g4.out.below HB.out (by omega))
  replace Bg := Lib.hid (Bg.out.below HB.out (by omega))
  replace EB := Lib.hid (below_step HB.out EB.out (by omega))
  clear HB
  have r01 := Lib.hid hd0
  have r02 := Lib.hid hd1
  have r03 := Lib.hid hd2
  have r04 := Lib.hid hd3
  have r01_r02 := Lib.hid ha0
  have r03_r01 := Lib.hid ha1
  have r03_r02 := Lib.hid ha2
  have r04_r01 := Lib.hid ha3
  have r04_r02 := Lib.hid ha4
  have r04_r03 := Lib.hid ha5
  clear hd0 hd1 hd2 hd3 ha0 ha1 ha2 ha3 ha4 ha5
  have hr0 : nr0 ≤ 1048576 := by have := r01.out.len; have := HLa0.out; omega
  have hr0' : nr0' ≤ 1048576 := by have := r02.out.len; have := HLb0.out; omega
  have hr0'' : mr0 ≤ 1048576 := by have := r03.out.len; have := HLc0.out; omega
  have hr0''' : lr0 ≤ 1048576 := by have := r04.out.len; have := HLd0.out; omega
  go_wp2_with fail
  refine (FlushBoth_x (HE.below EB.out (Nat.le_refl _)) EB.out.size r01.out r02.out r03.out r04.out (by omega) (by omega) (by omega) (by omega) hcr0 hcr0' hcr0'' hcr0''' hr0 hr0' hr0'' hr0''').mono ?_
  rintro e w17 ⟨Ah, nh, ch, Ah', nh', ch', Eh, mh, dh, Fh, lh, kh, rfl, ⟨hch, hch', hch'', hch'''⟩, hb, ⟨⟨⟨hd0, hd1, ha0, _, _⟩, hd2, ha1, ha2, _⟩, hd3, ha3, ha4, ha5⟩⟩
  (try simp only [World.size_alloc, World.size_setCell, World.size_drew] at hb)
  have HB := Lib.hid hb
  clear hb
  have s17 := HB.out.size
  (try simp only [World.size_alloc, World.size_setCell, World.size_drew] at s17)
  replace a01 := Lib.hid (a01.out.below HB.out (by omega))
  replace a02 := Lib.hid (a02.out.below HB.out (by omega))
  replace a03 := Lib.hid (a03.out.below HB.out (by omega))
  replace a04 := Lib.hid (a04.out.below HB.out (by omega))
  replace Ba0 := Lib.hid (Ba0.out.below HB.out (by omega))
  replace u1 := Lib.hid (u1.out.below HB.out (by omega))
  replace u2 := Lib.hid (u2.out.below HB.out (by omega))
  replace u3 := Lib.hid (u3.out.below HB.out (by omega))
  replace u4 := Lib.hid (u4.out.below HB.out (by omega))
  replace Bu := Lib.hid (Bu.out.below HB.out (by omega))
  replace g1 := Lib.hid (g1.out.below HB.out (by omega))
  replace g2 := Lib.hid (g2.out.below HB.out (by omega))
  replace g3 := Lib.hid (g3.out.below HB.out (by omega))
  replace g4 := Lib.hid (g4.out.below HB.out (by omega))
  replace Bg := Lib.hid (Bg.out.below HB.out (by omega))
  replace r01 := Lib.hid (r01.out.below HB.out (by omega))
  replace r02 := Lib.hid (r02.out.below HB.out (by omega))
  replace r03 := Lib.hid (r03.out.below HB.out (by omega))
  replace r04 := Lib.hid (r04.out.below HB.out (by omega))
  replace EB := Lib.hid (below_step HB.out EB.out (by omega))
  clear HB
  have h1 := Lib.hid hd0
  have h2 := Lib.hid hd1
  have h3 := Lib.hid hd2
  have h4 := Lib.hid hd3
  clear hd0 hd1 hd2 hd3
  have h1_h2 := Lib.hid ha0
  clear ha0
  have h3_h1 := Lib.hid ha1
  clear ha1
  have h3_h2 := Lib.hid ha2
  clear ha2
  have h4_h1 := Lib.hid ha3
  clear ha3
  have h4_h2 := Lib.hid ha4
  clear ha4
  have h4_h3 := Lib.hid ha5
  clear ha5
  obtain ⟨hx0, hx1, hx2, hx3⟩ := fbOut_le D0 p0 S0 q0 R0 Q0 yy0
  have hl_h1 : nh ≤ 1048576 := by have := h1.out.len; omega
  have hl_h2 : nh' ≤ 1048576 := by have := h2.out.len; omega
  have hl_h3 : mh ≤ 1048576 := by have := h3.out.len; omega
  have hl_h4 : lh ≤ 1048576 := by have := h4.out.len; omega
  clear hx0 hx1 hx2 hx3
  clear r01 r02 r03 r04
  have vul := Bu.out.lt
  have vu0 := (Bu.out.2 0 _ rfl).1
  have vu1 := (Bu.out.2 1 _ rfl).1
  have vu2 := (Bu.out.2 2 _ rfl).1
  have vu3 := (Bu.out.2 3 _ rfl).1
  have vu4 := (Bu.out.2 4 _ rfl).1
  have vu5 := (Bu.out.2 5 _ rfl).1
  have vu6 := (Bu.out.2 6 _ rfl).1
  go_wp2_with fail
  clear vul vu0 vu1 vu2 vu3 vu4 vu5 vu6
  replace a01 := Lib.hid (a01.out.alloc (by omega) (.cells #[.slice Ah nh ch, .int .i64 ((fbOut D0 p0 S0 q0 R0 Q0 yy0).1.p), .slice Ah' nh' ch', .int .i64 ((fbOut D0 p0 S0 q0 R0 Q0 yy0).1.q), .slice Eh mh dh, .slice Fh lh kh, .int .i64 ((fbOut D0 p0 S0 q0 R0 Q0 yy0).1.z)] 51))
  replace a02 := Lib.hid (a02.out.alloc (by omega) (.cells #[.slice Ah nh ch, .int .i64 ((fbOut D0 p0 S0 q0 R0 Q0 yy0).1.p), .slice Ah' nh' ch', .int .i64 ((fbOut D0 p0 S0 q0 R0 Q0 yy0).1.q), .slice Eh mh dh, .slice Fh lh kh, .int .i64 ((fbOut D0 p0 S0 q0 R0 Q0 yy0).1.z)] 51))
  replace a03 := Lib.hid (a03.out.alloc (by omega) (.cells #[.slice Ah nh ch, .int .i64 ((fbOut D0 p0 S0 q0 R0 Q0 yy0).1.p), .slice Ah' nh' ch', .int .i64 ((fbOut D0 p0 S0 q0 R0 Q0 yy0).1.q), .slice Eh mh dh, .slice Fh lh kh, .int .i64 ((fbOut D0 p0 S0 q0 R0 Q0 yy0).1.z)] 51))
  replace a04 := Lib.hid (a04.out.alloc (by omega) (.cells #[.slice Ah nh ch, .int .i64 ((fbOut D0 p0 S0 q0 R0 Q0 yy0).1.p), .slice Ah' nh' ch', .int .i64 ((fbOut D0 p0 S0 q0 R0 Q0 yy0).1.q), .slice Eh mh dh, .slice Fh lh kh, .int .i64 ((fbOut D0 p0 S0 q0 R0 Q0 yy0).1.z)] 51))
  replace Ba0 := Lib.hid (Ba0.out.alloc (.cells #[.slice Ah nh ch, .int .i64 ((fbOut D0 p0 S0 q0 R0 Q0 yy0).1.p), .slice Ah' nh' ch', .int .i64 ((fbOut D0 p0 S0 q0 R0 Q0 yy0).1.q), .slice Eh mh dh, .slice Fh lh kh, .int .i64 ((fbOut D0 p0 S0 q0 R0 Q0 yy0).1.z)] 51))
  replace u1 := Lib.hid (u1.out.alloc (by omega) (.cells #[.slice Ah nh ch, .int .i64 ((fbOut D0 p0 S0 q0 R0 Q0 yy0).1.p), .slice Ah' nh' ch', .int .i64 ((fbOut D0 p0 S0 q0 R0 Q0 yy0).1.q), .slice Eh mh dh, .slice Fh lh kh, .int .i64 ((fbOut D0 p0 S0 q0 R0 Q0 yy0).1.z)] 51))
  replace u2 := Lib.hid (u2.out.alloc (by omega) (.cells #[.slice Ah nh ch, .int .i64 ((fbOut D0 p0 S0 q0 R0 Q0 yy0).1.p), .slice Ah' nh' ch', .int .i64 ((fbOut D0 p0 S0 q0 R0 Q0 yy0).1.q), .slice Eh mh dh, .slice Fh lh kh, .int .i64 ((fbOut D0 p0 S0 q0 R0 Q0 yy0).1.z)] 51))
  replace u3 := Lib.hid (u3.out.alloc (by omega) (.cells #[.slice Ah nh ch, .int .i64 ((fbOut D0 p0 S0 q0 R0 Q0 yy0).1.p), .slice Ah' nh' ch', .int .i64 ((fbOut D0 p0 S0 q0 R0 Q0 yy0).1.q), .slice Eh mh dh, .slice Fh lh kh, .int .i64 ((fbOut D0 p0 S0 q0 R0 Q0 yy0).1.z)] 51))
  replace u4 := Lib.hid (u4.out.alloc (by omega) (.cells #[.slice Ah nh ch, .int .i64 ((fbOut D0 p0 S0 q0 R0 Q0 yy0).1.p), .slice Ah' nh' ch', .int .i64 ((fbOut D0 p0 S0 q0 R0 Q0 yy0).1.q), .slice Eh mh dh, .slice Fh lh kh, .int .i64 ((fbOut D0 p0 S0 q0 R0 Q0 yy0).1.z)] 51))
  replace Bu := Lib.hid (Bu.out.alloc (.cells #[.slice Ah nh ch, .int .i64 ((fbOut D0 p0 S0 q0 R0 Q0 yy0).1.p), .slice Ah' nh' ch', .int .i64 ((fbOut D0 p0 S0 q0 R0 Q0 yy0).1.q), .slice Eh mh dh, .slice Fh lh kh, .int .i64 ((fbOut D0 p0 S0 q0 R0 Q0 yy0).1.z)] 51))
  replace g1 := Lib.hid (g1.out.alloc (by omega) (.cells #[.slice Ah nh ch, .int .i64 ((fbOut D0 p0 S0 q0 R0 Q0 yy0).1.p), .slice Ah' nh' ch', .int .i64 ((fbOut D0 p0 S0 q0 R0 Q0 yy0).1.q), .slice Eh mh dh, .slice Fh lh kh, .int .i64 ((fbOut D0 p0 S0 q0 R0 Q0 yy0).1.z)] 51))
  replace g2 := Lib.hid (g2.out.alloc (by omega) (.cells #[.slice Ah nh ch, .int .i64 ((fbOut D0 p0 S0 q0 R0 Q0 yy0).1.p), .slice Ah' nh' ch', .int .i64 ((fbOut D0 p0 S0 q0 R0 Q0 yy0).1.q), .slice Eh mh dh, .slice Fh lh kh, .int .i64 ((fbOut D0 p0 S0 q0 R0 Q0 yy0).1.z)] 51))
  replace g3 := Lib.hid (g3.out.alloc (by omega) (.cells #[.slice Ah nh ch, .int .i64 ((fbOut D0 p0 S0 q0 R0 Q0 yy0).1.p), .slice Ah' nh' ch', .int .i64 ((fbOut D0 p0 S0 q0 R0 Q0 yy0).1.q), .slice Eh mh dh, .slice Fh lh kh, .int .i64 ((fbOut D0 p0 S0 q0 R0 Q0 yy0).1.z)] 51))
  replace g4 := Lib.hid (g4.out.alloc (by omega) (.cells #[.slice Ah nh ch, .int .i64 ((fbOut D0 p0 S0 q0 R0 Q0 yy0).1.p), .slice Ah' nh' ch', .int .i64 ((fbOut D0 p0 S0 q0 R0 Q0 yy0).1.q), .slice Eh mh dh, .slice Fh lh kh, .int .i64 ((fbOut D0 p0 S0 q0 R0 Q0 yy0).1.z)] 51))
  replace Bg := Lib.hid (Bg.out.alloc (.cells #[.slice Ah nh ch, .int .i64 ((fbOut D0 p0 S0 q0 R0 Q0 yy0).1.p), .slice Ah' nh' ch', .int .i64 ((fbOut D0 p0 S0 q0 R0 Q0 yy0).1.q), .slice Eh mh dh, .slice Fh lh kh, .int .i64 ((fbOut D0 p0 S0 q0 R0 Q0 yy0).1.z)] 51))
  replace h1 := Lib.hid (h1.out.alloc (by omega) (.cells #[.slice Ah nh ch, .int .i64 ((fbOut D0 p0 S0 q0 R0 Q0 yy0).1.p), .slice Ah' nh' ch', .int .i64 ((fbOut D0 p0 S0 q0 R0 Q0 yy0).1.q), .slice Eh mh dh, .slice Fh lh kh, .int .i64 ((fbOut D0 p0 S0 q0 R0 Q0 yy0).1.z)] 51))
  replace h2 := Lib.hid (h2.out.alloc (by omega) (.cells #[.slice Ah nh ch, .int .i64 ((fbOut D0 p0 S0 q0 R0 Q0 yy0).1.p), .slice Ah' nh' ch', .int .i64 ((fbOut D0 p0 S0 q0 R0 Q0 yy0).1.q), .slice Eh mh dh, .slice Fh lh kh, .int .i64 ((fbOut D0 p0 S0 q0 R0 Q0 yy0).1.z)] 51))
  replace h3 := Lib.hid (h3.out.alloc (by omega) (.cells #[.slice Ah nh ch, .int .i64 ((fbOut D0 p0 S0 q0 R0 Q0 yy0).1.p), .slice Ah' nh' ch', .int .i64 ((fbOut D0 p0 S0 q0 R0 Q0 yy0).1.q), .slice Eh mh dh, .slice Fh lh kh, .int .i64 ((fbOut D0 p0 S0 q0 R0 Q0 yy0).1.z)] 51))
  replace h4 := Lib.hid (h4.out.alloc (by omega) (.cells #[.slice Ah nh ch, .int .i64 ((fbOut D0 p0 S0 q0 R0 Q0 yy0).1.p), .slice Ah' nh' ch', .int .i64 ((fbOut D0 p0 S0 q0 R0 Q0 yy0).1.q), .slice Eh mh dh, .slice Fh lh kh, .int .i64 ((fbOut D0 p0 S0 q0 R0 Q0 yy0).1.z)] 51))
  replace EB := Lib.hid (EB.out.alloc (by omega) (.cells #[.slice Ah nh ch, .int .i64 ((fbOut D0 p0 S0 q0 R0 Q0 yy0).1.p), .slice Ah' nh' ch', .int .i64 ((fbOut D0 p0 S0 q0 R0 Q0 yy0).1.q), .slice Eh mh dh, .slice Fh lh kh, .int .i64 ((fbOut D0 p0 S0 q0 R0 Q0 yy0).1.z)] 51))
  have Bh := Lib.hid (Box.new w17 51 [.slice Ah nh ch, .int .i64 ((fbOut D0 p0 S0 q0 R0 Q0 yy0).1.p), .slice Ah' nh' ch', .int .i64 ((fbOut D0 p0 S0 q0 R0 Q0 yy0).1.q), .slice Eh mh dh, .slice Fh lh kh, .int .i64 ((fbOut D0 p0 S0 q0 R0 Q0 yy0).1.z)])
  have s18 : w17.heap.size + 1 ≤ (w17.alloc (.cells #[.slice Ah nh ch, .int .i64 ((fbOut D0 p0 S0 q0 R0 Q0 yy0).1.p), .slice Ah' nh' ch', .int .i64 ((fbOut D0 p0 S0 q0 R0 Q0 yy0).1.q), .slice Eh mh dh, .slice Fh lh kh, .int .i64 ((fbOut D0 p0 S0 q0 R0 Q0 yy0).1.z)] 51)).heap.size := by simp
  generalize w17.alloc (.cells #[.slice Ah nh ch, .int .i64 ((fbOut D0 p0 S0 q0 R0 Q0 yy0).1.p), .slice Ah' nh' ch', .int .i64 ((fbOut D0 p0 S0 q0 R0 Q0 yy0).1.q), .slice Eh mh dh, .slice Fh lh kh, .int .i64 ((fbOut D0 p0 S0 q0 R0 Q0 yy0).1.z)] 51) = w18 at *
  refine (eqBoth_same h1.out h2.out h3.out h4.out u1.out u2.out u3.out u4.out (by omega) (by omega) (by omega) (by omega) (by omega) (by omega) (by omega) (by omega)).mono ?_
  rintro e w19 ⟨rfl, hb⟩
  (try simp only [World.size_alloc, World.size_setCell, World.size_drew] at hb)
  have HB := Lib.hid hb
  clear hb
  have s19 := HB.out.size
  (try simp only [World.size_alloc, World.size_setCell, World.size_drew] at s19)
  replace a01 := Lib.hid (a01.out.below HB.out (by omega))
  replace a02 := Lib.hid (a02.out.below HB.out (by omega))
  replace a03 := Lib.hid (a03.out.below HB.out (by omega))
  replace a04 := Lib.hid (a04.out.below HB.out (by omega))
  replace Ba0 := Lib.hid (Ba0.out.below HB.out (by omega))
  replace u1 := Lib.hid (u1.out.below HB.out (by omega))
  replace u2 := Lib.hid (u2.out.below HB.out (by omega))
  replace u3 := Lib.hid (u3.out.below HB.out (by omega))
  replace u4 := Lib.hid (u4.out.below HB.out (by omega))
  replace Bu := Lib.hid (Bu.out.below HB.out (by omega))
  replace g1 := Lib.hid (g1.out.below HB.out (by omega))
  replace g2 := Lib.hid (g2.out.below HB.out (by omega))
  replace g3 := Lib.hid (g3.out.below HB.out (by omega))
  replace g4 := Lib.hid (g4.out.below HB.out (by omega))
  replace Bg := Lib.hid (Bg.out.below HB.out (by omega))
  replace h1 := Lib.hid (h1.out.below HB.out (by omega))
  replace h2 := Lib.hid (h2.out.below HB.out (by omega))
  replace h3 := Lib.hid (h3.out.below HB.out (by omega))
  replace h4 := Lib.hid (h4.out.below HB.out (by omega))
  replace Bh := Lib.hid (Bh.out.below HB.out (by omega))
  replace EB := Lib.hid (below_step HB.out EB.out (by omega))
  clear HB
  have vgl := Bg.out.lt
  have vg0 := (Bg.out.2 0 _ rfl).1
  have vg1 := (Bg.out.2 1 _ rfl).1
  have vg2 := (Bg.out.2 2 _ rfl).1
  have vg3 := (Bg.out.2 3 _ rfl).1
  have vg4 := (Bg.out.2 4 _ rfl).1
  have vg5 := (Bg.out.2 5 _ rfl).1
  have vg6 := (Bg.out.2 6 _ rfl).1
  go_wp2_with fail
  refine (heldBoth_any g1.out g2.out g3.out g4.out (by omega) (by omega) (by omega) (by omega) (by omega) (by omega) hl_g1 hl_g2 hl_g3 hl_g4).mono ?_
  clear vgl vg0 vg1 vg2 vg3 vg4 vg5 vg6
  rintro e w20 ⟨rfl, hb⟩
  (try simp only [World.size_alloc, World.size_setCell, World.size_drew] at hb)
  have HB := Lib.hid hb
  clear hb
  have s20 := HB.out.size
  (try simp only [World.size_alloc, World.size_setCell, World.size_drew] at s20)
  replace a01 := Lib.hid (a01.out.below HB.out (by omega))
  replace a02 := Lib.hid (a02.out.below HB.out (by omega))
  replace a03 := Lib.hid (a03.out.below HB.out (by omega))
  replace a04 := Lib.hid (a04.out.below HB.out (by omega))
  replace Ba0 := Lib.hid (Ba0.out.below HB.out (by omega))
  replace u1 := Lib.hid (u1.out.below HB.out (by omega))
  replace u2 := Lib.hid (u2.out.below HB.out (by omega))
  replace u3 := Lib.hid (u3.out.below HB.out (by omega))
  replace u4 := Lib.hid (u4.out.below HB.out (by omega))
  replace Bu := Lib.hid (Bu.out.below HB.out (by omega))
  replace g1 := Lib.hid (g1.out.below HB.out (by omega))
  replace g2 := Lib.hid (g2.out.below HB.out (by omega))
  replace g3 := Lib.hid (g3.out.below HB.out (by omega))
  replace g4 := Lib.hid (g4.out.below HB.out (by omega))
  replace Bg := Lib.hid (Bg.out.below HB.out (by omega))
  replace h1 := Lib.hid (h1.out.below HB.out (by omega))
  replace h2 := Lib.hid (h2.out.below HB.out (by omega))
  replace h3 := Lib.hid (h3.out.below HB.out (by omega))
  replace h4 := Lib.hid (h4.out.below HB.out (by omega))
  replace Bh := Lib.hid (Bh.out.below HB.out (by omega))
  replace EB := Lib.hid (below_step HB.out EB.out (by omega))
  clear HB
  go_wp2
  go_ret
  exact ⟨rfl, EB.out⟩

theorem contract (H : Type) (enc : TypeId × Value → H) (W : World) (base : Nat) (args : Array Value) (ds gs : List (DataW H)) (before : List MemPlace)
    (hval : ∀ (j : Nat) t v, Tryd.f8.params[j]? = some t → args[j]? = some v → Value.okWide Tryd.prog W .any base t v)
    (hW : DataW.Whole enc Tryd.prog Tryd.f8.params.toList Rows.fnExactFlushBothSpec.vars false W args.toList ds gs before) (hL : laidMetH Tryd.prog laid3 W) :
    Calls Tryd.prog 8 args W fun e W' => ∃ v, e = .returned v ∧ Rows.fnExactFlushBothSpec.post enc Tryd.prog Tryd.f8 false true false false W args v W' := by
  have hW' := hW
  have hlt : ∀ p ∈ before, p.block < W.heap.size := fun p hp => hW.lt p hp
  obtain ⟨p, q, hA0, hV0, rfl, hfz, hnd⟩ := hW
  have hA : DataW.TrodAll enc Tryd.prog W 0 (fun _ => true) true Tryd.f8.params.toList args.toList ds p := hA0
  have hV : DataW.TrodVars enc Tryd.prog W (fun _ => true) ["loop.example/streamlayers/impl.errNone", "loop.example/streamlayers/impl.errFault", "loop.example/streamlayers/impl.errFull"] gs q := hV0
  rw [Tryd.params8] at hA hval
  obtain ⟨v0, vs0, d0, ds0, p0, q0, hargs, rfl, rfl, h0, r0⟩ := trodAll_cons hA
  obtain ⟨rfl, rfl, rfl⟩ := trodAll_nil r0
  obtain rfl : args = #[v0] := by cases args; simp_all
  obtain ⟨a0, a1, a2, ⟨hv0, hv1, hv2⟩, ⟨n01, n02, n12⟩, w0, w1, w2⟩ := laid3_gives hL
  have hE := errs_of hv0 hv1 hv2 n01 n02 n12 w0 w1 w2
  have lt0 := hE.1.1.1
  have lt1 := hE.1.1.2.1
  have lt2 := hE.1.1.2.2
  have vr : ∀ {X : World}, Below W.heap.size W X → ∀ sp : Nat → Bool, DataW.TrodVars enc Tryd.prog X sp ["loop.example/streamlayers/impl.errNone", "loop.example/streamlayers/impl.errFault", "loop.example/streamlayers/impl.errFull"] [tok enc (errAt a0), tok enc (errAt a1), tok enc (errAt a2)] [.cell 0 0, .cell 1 0, .cell 2 0] := fun hb sp => vars_read3 enc (var?_below hb (by kernel_rfl) lt0 hv0) (var?_below hb (by kernel_rfl) lt1 hv1) (var?_below hb (by kernel_rfl) lt2 hv2) trivial trivial trivial sp
  obtain ⟨rfl, rfl⟩ := hV.unique (vr (Below.refl _ _) _)
  obtain ⟨A, n, c, x, A', n', c', y, A2, n2, c2, A3, n3, c3, u, D, S, R, Q, rfl, hD0, hS0, hR0, hQ0, hx0, hy0, hu0⟩ := arg_both (hval 0 _ v0 rfl rfl) h0 (fun p hp => hlt p (by simp [hp])) (fun b o hp => hfz b o (by simp [hp]))
  refine (walk _ _ _ _ _ _ _ _ _ _ _ _ _ _ _ _ _ _ _ _ _ _ W hD0 hS0 hR0 hQ0 hx0 hy0 hu0 hE).mono fun e W' hh => ?_
  obtain ⟨rfl, hb⟩ := hh
  exact ⟨_, rfl, law_postV laidOut (tys_of (by rw [Tryd.params8]; kernel_rfl)) hW' (fun sp => vr hb sp) rfl rfl Tryd.underlying4 hb⟩

set_option maxRecDepth 100000 in
theorem lifted (os : Os) (started : os.Started) (H : Type) (enc : TypeId × Value → H) :
    ReturnsInHanded {} Tryd.checked os 8 .any (fun w args => (Rows.fnExactFlushBothSpec.pre enc Tryd.prog Tryd.f8 [] false w args ∧ laidMetH Tryd.prog laid3 w) ∧ sizedMet enc Tryd.prog Tryd.f8 (OpenSpec.ofChange Rows.fnExactFlushBothSpec) false w args) (Rows.fnExactFlushBothSpec.post enc Tryd.prog Tryd.f8 false true false false) := by
  refine returnsInHanded_of_change_and (C := Tryd.checked) (X := fun w _ => laidMetH Tryd.prog laid3 w) (fun _ _ _ hh h => h.of_heap hh) own started (by kernel_rfl) Tryd.func8
    (ChangeSpec.witness_shaped (enc := enc) (C := Tryd.checked) (os := os) (X := fun w _ => laidMetH Tryd.prog laid3 w) false (World.doorLaid Tryd.prog 85 os) #[.agg #[.slice none 0 0, .int .i64 0, .slice none 0 0, .int .i64 0, .slice none 0 0, .slice none 0 0, .int .i64 0]] 8 rfl (World.shaped_of_RefB (by kernel_rfl) (by kernel_rfl)) (by kernel_rfl) (by kernel_rfl) (by kernel_rfl) (door_met3 os _)) ?_
  intro W base args ds gs before hval hW _ _ hL _
  exact contract H enc W base args ds gs before hval hW hL

theorem row : Rows.FnExactFlushBothSaid :=
  OpenClaim.holds_of_wide 8 Tryd.f8 rfl rfl rfl rfl rfl rfl rfl ⟨rfl, rfl, rfl, rfl, rfl⟩ rfl rfl rfl rfl rfl (by kernel_rfl) Tryd.func8 (by kernel_rfl)
    (of_decide_eq_true (by kernel_rfl)) (by unfold Func.isWrapper; first | (rw [if_pos (by decide +kernel)]; kernel_rfl) | (rw [if_neg (by decide +kernel)]; exact ⟨rfl, rfl⟩))
    (fun os started H enc _ => lifted os started H enc)

theorem holds : Rows.FnExactFlushBothCardSaid :=
  Claim7.holds_tied_plain_at .later [] [.sentinel, .sentinel, .sentinel] true _ true
    row (fun _ h => by cases h) (by kernel_rfl) (fun _ h => by cases h) fnExactFlushBoth_row_tie rfl ⟨rfl, rfl⟩ (by kernel_rfl) rfl
    (fun f fn hf hfn => by
      obtain rfl : f = 8 := Option.some.inj ((show Tryd.prog.funcNamed "loop.example/streamlayers/laws.FnExactFlushBoth" = some 8 by kernel_rfl).symm.trans hf) |>.symm
      obtain rfl : fn = Tryd.f8 := (Option.some.inj (Tryd.func8.symm.trans hfn)).symm
      exact ⟨by kernel_rfl, fun j t ht => by
        have hm : t ∈ Tryd.f8.params.toList := Array.mem_toList_iff.2 (Array.mem_of_getElem? ht)
        have hall : (Tryd.f8.params.toList.all fun t => !(Tryd.prog.wantsStandIn t)) = true := by kernel_rfl
        have h9 := List.all_eq_true.1 hall t hm
        show Tryd.prog.wantsStandIn t = false
        simpa using h9⟩)
    (by kernel_rfl)
end ExactFlushBoth
end Go.Proofs.YtphkkalkajleiaaDoor
