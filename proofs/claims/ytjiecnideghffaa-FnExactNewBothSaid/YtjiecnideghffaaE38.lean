/- The exact law of NewBoth: for all arguments the function answers as its model, and writes into none. -/
import Derived.Test.YtjiecnideghffaaLawBase
import Derived.Test.YtjiecnideghffaaL9
import Derived.Test.YtjiecnideghffaaS4b
set_option maxRecDepth 10000
namespace Go.Proofs.Ytjiecnideghffaa
open Go.ChangeShapes Go.WideShapes Go.ChangeAt Go.RowKit
set_option linter.unusedSimpArgs false
set_option linter.unusedVariables false
namespace ExactNewBoth
set_option maxHeartbeats 16000000 in
theorem walk (A0 A0' : Option Addr) (n0 c0 n0' c0' : Nat) (D0 S0 : List Int) (p0 q0 : Int) (z1 : Int) (w : World) (h0 : Ints w 0 w.heap.size A0 n0 D0) (h0' : Ints w 0 w.heap.size A0' n0' S0) (hp0 : okInt p0) (hq0 : okInt q0) (hz1 : okInt z1) :
    Calls Try.prog 7 #[.agg #[.slice A0 n0 c0, .int .i64 (p0), .slice A0' n0' c0', .int .i64 (q0)], .int .i64 z1] w (BoolB true w) := by
  have HLa0 := Lib.hid h0.len
  have HLb0 := Lib.hid h0'.len
  have hm0 := h0.max
  have hm0' := h0'.max
  have a01 := Lib.hid h0
  have a02 := Lib.hid h0'
  clear h0 h0'
  have EB := Lib.hid (Below.refl w.heap.size w)
  replace a01 := Lib.hid (a01.out.alloc (Nat.le_refl _) (.cells #[.slice A0 n0 c0, .int .i64 (p0), .slice A0' n0' c0', .int .i64 (q0)] 24))
  replace a02 := Lib.hid (a02.out.alloc (Nat.le_refl _) (.cells #[.slice A0 n0 c0, .int .i64 (p0), .slice A0' n0' c0', .int .i64 (q0)] 24))
  replace EB := Lib.hid (EB.out.alloc (Nat.le_refl _) (.cells #[.slice A0 n0 c0, .int .i64 (p0), .slice A0' n0' c0', .int .i64 (q0)] 24))
  have Ba0 := Lib.hid (Box.new w 24 [.slice A0 n0 c0, .int .i64 (p0), .slice A0' n0' c0', .int .i64 (q0)])
  go_enter Try.func7, Try.ntmps7
  go_wp2_with fail
  refine (szDevice_any hm0 hm0' (by omega) (by omega)).mono ?_
  rintro e w1 ⟨r, rfl, hr, hb⟩
  (try simp only [World.size_alloc, World.size_setCell, World.size_drew] at hb)
  have HB := Lib.hid hb
  clear hb
  have s1 := HB.out.size
  (try simp only [World.size_alloc, World.size_setCell, World.size_drew] at s1)
  replace a01 := Lib.hid (a01.out.below HB.out (by omega))
  replace a02 := Lib.hid (a02.out.below HB.out (by omega))
  replace Ba0 := Lib.hid (Ba0.out.below HB.out (by omega))
  replace EB := Lib.hid (below_step HB.out EB.out (by omega))
  clear HB
  have va0l := Ba0.out.lt
  have va00 := (Ba0.out.2 0 _ rfl).1
  have va01 := (Ba0.out.2 1 _ rfl).1
  have va02 := (Ba0.out.2 2 _ rfl).1
  have va03 := (Ba0.out.2 3 _ rfl).1
  go_wp2_with fail
  · go_ret
    exact ⟨rfl, EB.out⟩
  have hn0 : n0 ≤ 1048576 := by omega
  have hn0' : n0' ≤ 1048576 := by omega
  clear hr
  refine (toDevice_any a01.out a02.out (by omega) (by omega) hn0 hn0' hp0 hq0).mono ?_
  clear va0l va00 va01 va02 va03
  rintro e w2 ⟨At0, nt0, ct0, At0', nt0', ct0', rfl, ⟨hct0, hct0'⟩, hb, hd, hd', ha, _, _⟩
  (try simp only [World.size_alloc, World.size_setCell, World.size_drew] at hb)
  have HB := Lib.hid hb
  clear hb
  have s2 := HB.out.size
  (try simp only [World.size_alloc, World.size_setCell, World.size_drew] at s2)
  replace a01 := Lib.hid (a01.out.below HB.out (by omega))
  replace a02 := Lib.hid (a02.out.below HB.out (by omega))
  replace Ba0 := Lib.hid (Ba0.out.below HB.out (by omega))
  replace EB := Lib.hid (below_step HB.out EB.out (by omega))
  clear HB
  have t01 := Lib.hid hd
  have t02 := Lib.hid hd'
  have t0a := Lib.hid ha
  clear hd hd' ha
  have ht0 : nt0 ≤ 1048576 := by have := t01.out.len; have := HLa0.out; omega
  have ht0' : nt0' ≤ 1048576 := by have := t02.out.len; have := HLb0.out; omega
  go_wp2_with fail
  refine (SNewBoth_x (hp := hp0) (hq := hq0) t01.out t02.out (by omega) (by omega) hct0 hct0' ht0 ht0' hz1).mono ?_
  rintro e w3 ⟨Au, nu, cu, Au', nu', cu', Eu, mu, du, Fu, lu, ku, rfl, ⟨hcu, hcu', hcu'', hcu'''⟩, hb, ⟨⟨⟨hd0, hd1, ha0, _, _⟩, hd2, ha1, ha2, _⟩, hd3, ha3, ha4, ha5⟩⟩
  (try simp only [World.size_alloc, World.size_setCell, World.size_drew] at hb)
  have HB := Lib.hid hb
  clear hb
  have s3 := HB.out.size
  (try simp only [World.size_alloc, World.size_setCell, World.size_drew] at s3)
  replace a01 := Lib.hid (a01.out.below HB.out (by omega))
  replace a02 := Lib.hid (a02.out.below HB.out (by omega))
  replace Ba0 := Lib.hid (Ba0.out.below HB.out (by omega))
  replace t01 := Lib.hid (t01.out.below HB.out (by omega))
  replace t02 := Lib.hid (t02.out.below HB.out (by omega))
  replace EB := Lib.hid (below_step HB.out EB.out (by omega))
  clear HB
  have u1 := Lib.hid hd0
  have u2 := Lib.hid hd1
  have u3 := Lib.hid hd2
  have u4 := Lib.hid hd3
  clear hd0 hd1 hd2 hd3
  have u1_u2 := Lib.hid ha0
  clear ha0
  have u3_u1 := Lib.hid ha1
  clear ha1
  have u3_u2 := Lib.hid ha2
  clear ha2
  have u4_u1 := Lib.hid ha3
  clear ha3
  have u4_u2 := Lib.hid ha4
  clear ha4
  have u4_u3 := Lib.hid ha5
  clear ha5
  obtain ⟨hx0, hx1, hx2, hx3⟩ := newBOut_le D0 p0 S0 q0 z1
  have hl_u1 : nu ≤ 1048576 := by have := u1.out.len; omega
  have hl_u2 : nu' ≤ 1048576 := by have := u2.out.len; omega
  have hl_u3 : mu ≤ 1048576 := by have := u3.out.len; omega
  have hl_u4 : lu ≤ 1048576 := by have := u4.out.len; omega
  clear hx0 hx1 hx2 hx3
  clear t01 t02
  have va0l := Ba0.out.lt
  have va00 := (Ba0.out.2 0 _ rfl).1
  have va01 := (Ba0.out.2 1 _ rfl).1
  have va02 := (Ba0.out.2 2 _ rfl).1
  have va03 := (Ba0.out.2 3 _ rfl).1
  go_wp2_with fail
  clear va0l va00 va01 va02 va03
  replace a01 := Lib.hid (a01.out.alloc (by omega) (.cells #[.slice Au nu cu, .int .i64 ((newBOut D0 p0 S0 q0 z1).1.p), .slice Au' nu' cu', .int .i64 ((newBOut D0 p0 S0 q0 z1).1.q), .slice Eu mu du, .slice Fu lu ku, .int .i64 ((newBOut D0 p0 S0 q0 z1).1.z)] 60))
  replace a02 := Lib.hid (a02.out.alloc (by omega) (.cells #[.slice Au nu cu, .int .i64 ((newBOut D0 p0 S0 q0 z1).1.p), .slice Au' nu' cu', .int .i64 ((newBOut D0 p0 S0 q0 z1).1.q), .slice Eu mu du, .slice Fu lu ku, .int .i64 ((newBOut D0 p0 S0 q0 z1).1.z)] 60))
  replace Ba0 := Lib.hid (Ba0.out.alloc (.cells #[.slice Au nu cu, .int .i64 ((newBOut D0 p0 S0 q0 z1).1.p), .slice Au' nu' cu', .int .i64 ((newBOut D0 p0 S0 q0 z1).1.q), .slice Eu mu du, .slice Fu lu ku, .int .i64 ((newBOut D0 p0 S0 q0 z1).1.z)] 60))
  replace u1 := Lib.hid (u1.out.alloc (by omega) (.cells #[.slice Au nu cu, .int .i64 ((newBOut D0 p0 S0 q0 z1).1.p), .slice Au' nu' cu', .int .i64 ((newBOut D0 p0 S0 q0 z1).1.q), .slice Eu mu du, .slice Fu lu ku, .int .i64 ((newBOut D0 p0 S0 q0 z1).1.z)] 60))
  replace u2 := Lib.hid (u2.out.alloc (by omega) (.cells #[.slice Au nu cu, .int .i64 ((newBOut D0 p0 S0 q0 z1).1.p), .slice Au' nu' cu', .int .i64 ((newBOut D0 p0 S0 q0 z1).1.q), .slice Eu mu du, .slice Fu lu ku, .int .i64 ((newBOut D0 p0 S0 q0 z1).1.z)] 60))
  replace u3 := Lib.hid (u3.out.alloc (by omega) (.cells #[.slice Au nu cu, .int .i64 ((newBOut D0 p0 S0 q0 z1).1.p), .slice Au' nu' cu', .int .i64 ((newBOut D0 p0 S0 q0 z1).1.q), .slice Eu mu du, .slice Fu lu ku, .int .i64 ((newBOut D0 p0 S0 q0 z1).1.z)] 60))
  replace u4 := Lib.hid (u4.out.alloc (by omega) (.cells #[.slice Au nu cu, .int .i64 ((newBOut D0 p0 S0 q0 z1).1.p), .slice Au' nu' cu', .int .i64 ((newBOut D0 p0 S0 q0 z1).1.q), .slice Eu mu du, .slice Fu lu ku, .int .i64 ((newBOut D0 p0 S0 q0 z1).1.z)] 60))
  replace EB := Lib.hid (EB.out.alloc (by omega) (.cells #[.slice Au nu cu, .int .i64 ((newBOut D0 p0 S0 q0 z1).1.p), .slice Au' nu' cu', .int .i64 ((newBOut D0 p0 S0 q0 z1).1.q), .slice Eu mu du, .slice Fu lu ku, .int .i64 ((newBOut D0 p0 S0 q0 z1).1.z)] 60))
  have Bu := Lib.hid (Box.new w3 60 [.slice Au nu cu, .int .i64 ((newBOut D0 p0 S0 q0 z1).1.p), .slice Au' nu' cu', .int .i64 ((newBOut D0 p0 S0 q0 z1).1.q), .slice Eu mu du, .slice Fu lu ku, .int .i64 ((newBOut D0 p0 S0 q0 z1).1.z)])
  have s4 : w3.heap.size + 1 ≤ (w3.alloc (.cells #[.slice Au nu cu, .int .i64 ((newBOut D0 p0 S0 q0 z1).1.p), .slice Au' nu' cu', .int .i64 ((newBOut D0 p0 S0 q0 z1).1.q), .slice Eu mu du, .slice Fu lu ku, .int .i64 ((newBOut D0 p0 S0 q0 z1).1.z)] 60)).heap.size := by simp
  generalize w3.alloc (.cells #[.slice Au nu cu, .int .i64 ((newBOut D0 p0 S0 q0 z1).1.p), .slice Au' nu' cu', .int .i64 ((newBOut D0 p0 S0 q0 z1).1.q), .slice Eu mu du, .slice Fu lu ku, .int .i64 ((newBOut D0 p0 S0 q0 z1).1.z)] 60) = w4 at *
  refine (toDevice_any a01.out a02.out (by omega) (by omega) hn0 hn0' hp0 hq0).mono ?_
  rintro e w5 ⟨Ax0, nx0, cx0, Ax0', nx0', cx0', rfl, ⟨hcx0, hcx0'⟩, hb, hd, hd', ha, _, _⟩
  (try simp only [World.size_alloc, World.size_setCell, World.size_drew] at hb)
  have HB := Lib.hid hb
  clear hb
  have s5 := HB.out.size
  (try simp only [World.size_alloc, World.size_setCell, World.size_drew] at s5)
  replace a01 := Lib.hid (a01.out.below HB.out (by omega))
  replace a02 := Lib.hid (a02.out.below HB.out (by omega))
  replace Ba0 := Lib.hid (Ba0.out.below HB.out (by omega))
  replace u1 := Lib.hid (u1.out.below HB.out (by omega))
  replace u2 := Lib.hid (u2.out.below HB.out (by omega))
  replace u3 := Lib.hid (u3.out.below HB.out (by omega))
  replace u4 := Lib.hid (u4.out.below HB.out (by omega))
  replace Bu := Lib.hid (Bu.out.below HB.out (by omega))
  replace EB := Lib.hid (below_step HB.out EB.out (by omega))
  clear HB
  have x01 := Lib.hid hd
  have x02 := Lib.hid hd'
  have x0a := Lib.hid ha
  clear hd hd' ha
  have hx0 : nx0 ≤ 1048576 := by have := x01.out.len; have := HLa0.out; omega
  have hx0' : nx0' ≤ 1048576 := by have := x02.out.len; have := HLb0.out; omega
  go_wp2_with fail
  replace a01 := Lib.hid (a01.out.alloc (by omega) (.cells #[.slice Ax0 nx0 cx0, .int .i64 (p0), .slice Ax0' nx0' cx0', .int .i64 (q0)] 26))
  replace a02 := Lib.hid (a02.out.alloc (by omega) (.cells #[.slice Ax0 nx0 cx0, .int .i64 (p0), .slice Ax0' nx0' cx0', .int .i64 (q0)] 26))
  replace Ba0 := Lib.hid (Ba0.out.alloc (.cells #[.slice Ax0 nx0 cx0, .int .i64 (p0), .slice Ax0' nx0' cx0', .int .i64 (q0)] 26))
  replace u1 := Lib.hid (u1.out.alloc (by omega) (.cells #[.slice Ax0 nx0 cx0, .int .i64 (p0), .slice Ax0' nx0' cx0', .int .i64 (q0)] 26))
  replace u2 := Lib.hid (u2.out.alloc (by omega) (.cells #[.slice Ax0 nx0 cx0, .int .i64 (p0), .slice Ax0' nx0' cx0', .int .i64 (q0)] 26))
  replace u3 := Lib.hid (u3.out.alloc (by omega) (.cells #[.slice Ax0 nx0 cx0, .int .i64 (p0), .slice Ax0' nx0' cx0', .int .i64 (q0)] 26))
  replace u4 := Lib.hid (u4.out.alloc (by omega) (.cells #[.slice Ax0 nx0 cx0, .int .i64 (p0), .slice Ax0' nx0' cx0', .int .i64 (q0)] 26))
  replace Bu := Lib.hid (Bu.out.alloc (.cells #[.slice Ax0 nx0 cx0, .int .i64 (p0), .slice Ax0' nx0' cx0', .int .i64 (q0)] 26))
  replace x01 := Lib.hid (x01.out.alloc (by omega) (.cells #[.slice Ax0 nx0 cx0, .int .i64 (p0), .slice Ax0' nx0' cx0', .int .i64 (q0)] 26))
  replace x02 := Lib.hid (x02.out.alloc (by omega) (.cells #[.slice Ax0 nx0 cx0, .int .i64 (p0), .slice Ax0' nx0' cx0', .int .i64 (q0)] 26))
  replace EB := Lib.hid (EB.out.alloc (by omega) (.cells #[.slice Ax0 nx0 cx0, .int .i64 (p0), .slice Ax0' nx0' cx0', .int .i64 (q0)] 26))
  have Bx0 := Lib.hid (Box.new w5 26 [.slice Ax0 nx0 cx0, .int .i64 (p0), .slice Ax0' nx0' cx0', .int .i64 (q0)])
  have s6 : w5.heap.size + 1 ≤ (w5.alloc (.cells #[.slice Ax0 nx0 cx0, .int .i64 (p0), .slice Ax0' nx0' cx0', .int .i64 (q0)] 26)).heap.size := by simp
  generalize w5.alloc (.cells #[.slice Ax0 nx0 cx0, .int .i64 (p0), .slice Ax0' nx0' cx0', .int .i64 (q0)] 26) = w6 at *
  refine (NewBoth_x (_hp := hp0) (_hq := hq0) x01.out x02.out (by omega) (by omega) hcx0 hcx0' hx0 hx0' hz1).mono ?_
  rintro e w7 ⟨Ag, ng, cg, Ag', ng', cg', Eg, mg, dg, Fg, lg, kg, rfl, ⟨hcg, hcg', hcg'', hcg'''⟩, hb, ⟨⟨⟨hd0, hd1, ha0, _, _⟩, hd2, ha1, ha2, _⟩, hd3, ha3, ha4, ha5⟩⟩
  (try simp only [World.size_alloc, World.size_setCell, World.size_drew] at hb)
  have HB := Lib.hid hb
  clear hb
  have s7 := HB.out.size
  (try simp only [World.size_alloc, World.size_setCell, World.size_drew] at s7)
  replace a01 := Lib.hid (a01.out.below HB.out (by omega))
  replace a02 := Lib.hid (a02.out.below HB.out (by omega))
  replace Ba0 := Lib.hid (Ba0.out.below HB.out (by omega))
  replace u1 := Lib.hid (u1.out.below HB.out (by omega))
  replace u2 := Lib.hid (u2.out.below HB.out (by omega))
  replace u3 := Lib.hid (u3.out.below HB.out (by omega))
  replace u4 := Lib.hid (u4.out.below HB.out (by omega))
  replace Bu := Lib.hid (Bu.out.below HB.out (by omega))
  replace x01 := Lib.hid (x01.out.below HB.out (by omega))
  replace x02 := Lib.hid (x02.out.below HB.out (by omega))
  replace Bx0 := Lib.hid (Bx0.out.below HB.out (by omega))
  replace EB := Lib.hid (below_step HB.out EB.out (by omega))
  clear HB
  have g1 := Lib.hid hd0
  have g2 := Lib.hid hd1
  have g3 := Lib.hid hd2
  have g4 := Lib.hid hd3
  clear hd0 hd1 hd2 hd3
  have g1_g2 := Lib.hid ha0
  clear ha0
  have g3_g1 := Lib.hid ha1
  clear ha1
  have g3_g2 := Lib.hid ha2
  clear ha2
  have g4_g1 := Lib.hid ha3
  clear ha3
  have g4_g2 := Lib.hid ha4
  clear ha4
  have g4_g3 := Lib.hid ha5
  clear ha5
  obtain ⟨hx0, hx1, hx2, hx3⟩ := newBOut_le D0 p0 S0 q0 z1
  have hl_g1 : ng ≤ 1048576 := by have := g1.out.len; omega
  have hl_g2 : ng' ≤ 1048576 := by have := g2.out.len; omega
  have hl_g3 : mg ≤ 1048576 := by have := g3.out.len; omega
  have hl_g4 : lg ≤ 1048576 := by have := g4.out.len; omega
  clear hx0 hx1 hx2 hx3
  have vul := Bu.out.lt
  have vu0 := (Bu.out.2 0 _ rfl).1
  have vu1 := (Bu.out.2 1 _ rfl).1
  have vu2 := (Bu.out.2 2 _ rfl).1
  have vu3 := (Bu.out.2 3 _ rfl).1
  have vu4 := (Bu.out.2 4 _ rfl).1
  have vu5 := (Bu.out.2 5 _ rfl).1
  have vu6 := (Bu.out.2 6 _ rfl).1
  go_wp2_with fail
  clear vul vu0 vu1 vu2 vu3 vu4 vu5 vu6
  replace a01 := Lib.hid (a01.out.alloc (by omega) (.cells #[.slice Ag ng cg, .int .i64 ((newBOut D0 p0 S0 q0 z1).1.p), .slice Ag' ng' cg', .int .i64 ((newBOut D0 p0 S0 q0 z1).1.q), .slice Eg mg dg, .slice Fg lg kg, .int .i64 ((newBOut D0 p0 S0 q0 z1).1.z)] 60))
  replace a02 := Lib.hid (a02.out.alloc (by omega) (.cells #[.slice Ag ng cg, .int .i64 ((newBOut D0 p0 S0 q0 z1).1.p), .slice Ag' ng' cg', .int .i64 ((newBOut D0 p0 S0 q0 z1).1.q), .slice Eg mg dg, .slice Fg lg kg, .int .i64 ((newBOut D0 p0 S0 q0 z1).1.z)] 60))
  replace Ba0 := Lib.hid (Ba0.out.alloc (.cells #[.slice Ag ng cg, .int .i64 ((newBOut D0 p0 S0 q0 z1).1.p), .slice Ag' ng' cg', .int .i64 ((newBOut D0 p0 S0 q0 z1).1.q), .slice Eg mg dg, .slice Fg lg kg, .int .i64 ((newBOut D0 p0 S0 q0 z1).1.z)] 60))
  replace u1 := Lib.hid (u1.out.alloc (by omega) (.cells #[.slice Ag ng cg, .int .i64 ((newBOut D0 p0 S0 q0 z1).1.p), .slice Ag' ng' cg', .int .i64 ((newBOut D0 p0 S0 q0 z1).1.q), .slice Eg mg dg, .slice Fg lg kg, .int .i64 ((newBOut D0 p0 S0 q0 z1).1.z)] 60))
  replace u2 := Lib.hid (u2.out.alloc (by omega) (.cells #[.slice Ag ng cg, .int .i64 ((newBOut D0 p0 S0 q0 z1).1.p), .slice Ag' ng' cg', .int .i64 ((newBOut D0 p0 S0 q0 z1).1.q), .slice Eg mg dg, .slice Fg lg kg, .int .i64 ((newBOut D0 p0 S0 q0 z1).1.z)] 60))
  replace u3 := Lib.hid (u3.out.alloc (by omega) (.cells #[.slice Ag ng cg, .int .i64 ((newBOut D0 p0 S0 q0 z1).1.p), .slice Ag' ng' cg', .int .i64 ((newBOut D0 p0 S0 q0 z1).1.q), .slice Eg mg dg, .slice Fg lg kg, .int .i64 ((newBOut D0 p0 S0 q0 z1).1.z)] 60))
  replace u4 := Lib.hid (u4.out.alloc (by omega) (.cells #[.slice Ag ng cg, .int .i64 ((newBOut D0 p0 S0 q0 z1).1.p), .slice Ag' ng' cg', .int .i64 ((newBOut D0 p0 S0 q0 z1).1.q), .slice Eg mg dg, .slice Fg lg kg, .int .i64 ((newBOut D0 p0 S0 q0 z1).1.z)] 60))
  replace Bu := Lib.hid (Bu.out.alloc (.cells #[.slice Ag ng cg, .int .i64 ((newBOut D0 p0 S0 q0 z1).1.p), .slice Ag' ng' cg', .int .i64 ((newBOut D0 p0 S0 q0 z1).1.q), .slice Eg mg dg, .slice Fg lg kg, .int .i64 ((newBOut D0 p0 S0 q0 z1).1.z)] 60))
  replace x01 := Lib.hid (x01.out.alloc (by omega) (.cells #[.slice Ag ng cg, .int .i64 ((newBOut D0 p0 S0 q0 z1).1.p), .slice Ag' ng' cg', .int .i64 ((newBOut D0 p0 S0 q0 z1).1.q), .slice Eg mg dg, .slice Fg lg kg, .int .i64 ((newBOut D0 p0 S0 q0 z1).1.z)] 60))
  replace x02 := Lib.hid (x02.out.alloc (by omega) (.cells #[.slice Ag ng cg, .int .i64 ((newBOut D0 p0 S0 q0 z1).1.p), .slice Ag' ng' cg', .int .i64 ((newBOut D0 p0 S0 q0 z1).1.q), .slice Eg mg dg, .slice Fg lg kg, .int .i64 ((newBOut D0 p0 S0 q0 z1).1.z)] 60))
  replace Bx0 := Lib.hid (Bx0.out.alloc (.cells #[.slice Ag ng cg, .int .i64 ((newBOut D0 p0 S0 q0 z1).1.p), .slice Ag' ng' cg', .int .i64 ((newBOut D0 p0 S0 q0 z1).1.q), .slice Eg mg dg, .slice Fg lg kg, .int .i64 ((newBOut D0 p0 S0 q0 z1).1.z)] 60))
  replace g1 := Lib.hid (g1.out.alloc (by omega) (.cells #[.slice Ag ng cg, .int .i64 ((newBOut D0 p0 S0 q0 z1).1.p), .slice Ag' ng' cg', .int .i64 ((newBOut D0 p0 S0 q0 z1).1.q), .slice Eg mg dg, .slice Fg lg kg, .int .i64 ((newBOut D0 p0 S0 q0 z1).1.z)] 60))
  replace g2 := Lib.hid (g2.out.alloc (by omega) (.cells #[.slice Ag ng cg, .int .i64 ((newBOut D0 p0 S0 q0 z1).1.p), .slice Ag' ng' cg', .int .i64 ((newBOut D0 p0 S0 q0 z1).1.q), .slice Eg mg dg, .slice Fg lg kg, .int .i64 ((newBOut D0 p0 S0 q0 z1).1.z)] 60))
  replace g3 := Lib.hid (g3.out.alloc (by omega) (.cells #[.slice Ag ng cg, .int .i64 ((newBOut D0 p0 S0 q0 z1).1.p), .slice Ag' ng' cg', .int .i64 ((newBOut D0 p0 S0 q0 z1).1.q), .slice Eg mg dg, .slice Fg lg kg, .int .i64 ((newBOut D0 p0 S0 q0 z1).1.z)] 60))
  replace g4 := Lib.hid (g4.out.alloc (by omega) (.cells #[.slice Ag ng cg, .int .i64 ((newBOut D0 p0 S0 q0 z1).1.p), .slice Ag' ng' cg', .int .i64 ((newBOut D0 p0 S0 q0 z1).1.q), .slice Eg mg dg, .slice Fg lg kg, .int .i64 ((newBOut D0 p0 S0 q0 z1).1.z)] 60))
  replace EB := Lib.hid (EB.out.alloc (by omega) (.cells #[.slice Ag ng cg, .int .i64 ((newBOut D0 p0 S0 q0 z1).1.p), .slice Ag' ng' cg', .int .i64 ((newBOut D0 p0 S0 q0 z1).1.q), .slice Eg mg dg, .slice Fg lg kg, .int .i64 ((newBOut D0 p0 S0 q0 z1).1.z)] 60))
  have Bg := Lib.hid (Box.new w7 60 [.slice Ag ng cg, .int .i64 ((newBOut D0 p0 S0 q0 z1).1.p), .slice Ag' ng' cg', .int .i64 ((newBOut D0 p0 S0 q0 z1).1.q), .slice Eg mg dg, .slice Fg lg kg, .int .i64 ((newBOut D0 p0 S0 q0 z1).1.z)])
  have s8 : w7.heap.size + 1 ≤ (w7.alloc (.cells #[.slice Ag ng cg, .int .i64 ((newBOut D0 p0 S0 q0 z1).1.p), .slice Ag' ng' cg', .int .i64 ((newBOut D0 p0 S0 q0 z1).1.q), .slice Eg mg dg, .slice Fg lg kg, .int .i64 ((newBOut D0 p0 S0 q0 z1).1.z)] 60)).heap.size := by simp
  generalize w7.alloc (.cells #[.slice Ag ng cg, .int .i64 ((newBOut D0 p0 S0 q0 z1).1.p), .slice Ag' ng' cg', .int .i64 ((newBOut D0 p0 S0 q0 z1).1.q), .slice Eg mg dg, .slice Fg lg kg, .int .i64 ((newBOut D0 p0 S0 q0 z1).1.z)] 60) = w8 at *
  refine (eqBoth_same g1.out g2.out g3.out g4.out u1.out u2.out u3.out u4.out (by omega) (by omega) (by omega) (by omega) (by omega) (by omega) (by omega) (by omega)).mono ?_
  rintro e w9 ⟨rfl, hb⟩
  (try simp only [World.size_alloc, World.size_setCell, World.size_drew] at hb)
  have HB := Lib.hid hb
  clear hb
  have s9 := HB.out.size
  (try simp only [World.size_alloc, World.size_setCell, World.size_drew] at s9)
  replace a01 := Lib.hid (a01.out.below HB.out (by omega))
  replace a02 := Lib.hid (a02.out.below HB.out (by omega))
  replace Ba0 := Lib.hid (Ba0.out.below HB.out (by omega))
  replace u1 := Lib.hid (u1.out.below HB.out (by omega))
  replace u2 := Lib.hid (u2.out.below HB.out (by omega))
  replace u3 := Lib.hid (u3.out.below HB.out (by omega))
  replace u4 := Lib.hid (u4.out.below HB.out (by omega))
  replace Bu := Lib.hid (Bu.out.below HB.out (by omega))
  replace x01 := Lib.hid (x01.out.below HB.out (by omega))
  replace x02 := Lib.hid (x02.out.below HB.out (by omega))
  replace Bx0 := Lib.hid (Bx0.out.below HB.out (by omega))
  replace g1 := Lib.hid (g1.out.below HB.out (by omega))
  replace g2 := Lib.hid (g2.out.below HB.out (by omega))
  replace g3 := Lib.hid (g3.out.below HB.out (by omega))
  replace g4 := Lib.hid (g4.out.below HB.out (by omega))
  replace Bg := Lib.hid (Bg.out.below HB.out (by omega))
  replace EB := Lib.hid (below_step HB.out EB.out (by omega))
  clear HB
  have va0l := Ba0.out.lt
  have va00 := (Ba0.out.2 0 _ rfl).1
  have va01 := (Ba0.out.2 1 _ rfl).1
  have va02 := (Ba0.out.2 2 _ rfl).1
  have va03 := (Ba0.out.2 3 _ rfl).1
  have vx0l := Bx0.out.lt
  have vx00 := (Bx0.out.2 0 _ rfl).1
  have vx01 := (Bx0.out.2 1 _ rfl).1
  have vx02 := (Bx0.out.2 2 _ rfl).1
  have vx03 := (Bx0.out.2 3 _ rfl).1
  go_wp2_with fail
  clear va0l va00 va01 va02 va03 vx0l vx00 vx01 vx02 vx03
  have EC := Lib.hid EB.out
  have xl := Ba0.out.lt
  have x0 := (Ba0.out.2 0 _ rfl).1
  have x1 := (Ba0.out.2 1 _ rfl).1
  have x2 := (Ba0.out.2 2 _ rfl).1
  have x3 := (Ba0.out.2 3 _ rfl).1
  have yl := Bx0.out.lt
  have y0 := (Bx0.out.2 0 _ rfl).1
  have y1 := (Bx0.out.2 1 _ rfl).1
  have y2 := (Bx0.out.2 2 _ rfl).1
  have y3 := (Bx0.out.2 3 _ rfl).1
  go_region_held3 (fun w' => (w'.cell? ⟨w.heap.size, 0, none⟩ = some (.slice A0 n0 c0) ∧ w'.cell? ⟨w.heap.size, 1, none⟩ = some (.int .i64 (p0)) ∧ w'.cell? ⟨w.heap.size, 2, none⟩ = some (.slice A0' n0' c0') ∧ w'.cell? ⟨w.heap.size, 3, none⟩ = some (.int .i64 (q0))) ∧ (w'.cell? ⟨w5.heap.size, 0, none⟩ = some (.slice Ax0 nx0 cx0) ∧ w'.cell? ⟨w5.heap.size, 1, none⟩ = some (.int .i64 (p0)) ∧ w'.cell? ⟨w5.heap.size, 2, none⟩ = some (.slice Ax0' nx0' cx0') ∧ w'.cell? ⟨w5.heap.size, 3, none⟩ = some (.int .i64 (q0)))) (go_keep)
    (first | (go_at_call 16; refine (toDevice_any a01.out.drew a02.out.drew (by first | omega | (simp; omega) | (simp; done)) (by first | omega | (simp; omega) | (simp; done)) hn0 hn0' hp0 hq0).mono ?_; rintro e w10 ⟨Ak, nk, ck, Ak', nk', ck', rfl, ⟨_, _⟩, hb, hd, hd', _, _, _⟩; (try simp only [World.size_alloc, World.size_setCell, World.size_drew] at hb hd hd'); have HB := Lib.hid hb; have HK1 := Lib.hid hd; have HK2 := Lib.hid hd'; have sa := hb.size; (try simp only [World.size_alloc, World.size_setCell, World.size_drew] at sa); have BA := Lib.hid (Ba0.out.drew.below hb (by omega)); have BX := Lib.hid (Bx0.out.drew.below hb (by omega)); clear hb hd hd'; have x0 := (BA.out.2 0 _ rfl).1; have x1 := (BA.out.2 1 _ rfl).1; have x2 := (BA.out.2 2 _ rfl).1; have x3 := (BA.out.2 3 _ rfl).1; have y0 := (BX.out.2 0 _ rfl).1; have y1 := (BX.out.2 1 _ rfl).1; have y2 := (BX.out.2 2 _ rfl).1; have y3 := (BX.out.2 3 _ rfl).1) | (go_at_call 19; refine (eqDevice_same (x01.out.drew.below HB.out (by omega)) (x02.out.drew.below HB.out (by omega)) HK1.out HK2.out (by omega) (by omega) (by omega) (by omega)).mono ?_; rintro e w11 ⟨rfl, hb⟩; have HC := Lib.hid hb; have sb := hb.size; have CA := Lib.hid (BA.out.below hb (by omega)); have CX := Lib.hid (BX.out.below hb (by omega)); clear hb; have x0 := (CA.out.2 0 _ rfl).1; have x1 := (CA.out.2 1 _ rfl).1; have x2 := (CA.out.2 2 _ rfl).1; have x3 := (CA.out.2 3 _ rfl).1; have y0 := (CX.out.2 0 _ rfl).1; have y1 := (CX.out.2 1 _ rfl).1; have y2 := (CX.out.2 2 _ rfl).1; have y3 := (CX.out.2 3 _ rfl).1))
  have HD : Hid (Below w9.heap.size w9 w11) := below_step HC.out (below_step HB.out (Below.refl _ _).drew (by simp)) (by omega)
  have s11 := HD.out.size
  clear xl x0 x1 x2 x3 yl y0 y1 y2 y3
  replace a01 := Lib.hid (a01.out.below HD.out (by omega))
  replace a02 := Lib.hid (a02.out.below HD.out (by omega))
  replace Ba0 := Lib.hid (Ba0.out.below HD.out (by omega))
  replace u1 := Lib.hid (u1.out.below HD.out (by omega))
  replace u2 := Lib.hid (u2.out.below HD.out (by omega))
  replace u3 := Lib.hid (u3.out.below HD.out (by omega))
  replace u4 := Lib.hid (u4.out.below HD.out (by omega))
  replace Bu := Lib.hid (Bu.out.below HD.out (by omega))
  replace x01 := Lib.hid (x01.out.below HD.out (by omega))
  replace x02 := Lib.hid (x02.out.below HD.out (by omega))
  replace Bx0 := Lib.hid (Bx0.out.below HD.out (by omega))
  replace g1 := Lib.hid (g1.out.below HD.out (by omega))
  replace g2 := Lib.hid (g2.out.below HD.out (by omega))
  replace g3 := Lib.hid (g3.out.below HD.out (by omega))
  replace g4 := Lib.hid (g4.out.below HD.out (by omega))
  replace Bg := Lib.hid (Bg.out.below HD.out (by omega))
  replace EB := Lib.hid (below_step HD.out EB.out (by omega))
  clear HB HC HD HK1 HK2 BA BX CA CX
  have vx0l := Bx0.out.lt
  have vx00 := (Bx0.out.2 0 _ rfl).1
  have vx01 := (Bx0.out.2 1 _ rfl).1
  have vx02 := (Bx0.out.2 2 _ rfl).1
  have vx03 := (Bx0.out.2 3 _ rfl).1
  go_wp2_with fail
  refine (markDevice_any x01.out x02.out x0a.out (by omega) (by omega) (by omega) (by omega) hx0 hx0').mono ?_
  clear vx0l vx00 vx01 vx02 vx03
  rintro e w12 ⟨rfl, hm, hi0, hi1⟩
  have HM := Lib.hid hm
  have s12 := HM.out.size
  clear hm
  replace EB := Lib.hid (below_markD EB.out HM.out x01.out x02.out (by omega) (by omega) (by omega))
  replace a01 := Lib.hid (a01.out.markD HM.out (by omega) (Apart.of_le a01.out x01.out (by omega)).symm (Apart.of_le a01.out x02.out (by omega)).symm)
  replace a02 := Lib.hid (a02.out.markD HM.out (by omega) (Apart.of_le a02.out x01.out (by omega)).symm (Apart.of_le a02.out x02.out (by omega)).symm)
  replace Ba0 := Lib.hid (Ba0.out.markD HM.out x01.out x02.out (by omega) (by omega))
  replace u1 := Lib.hid (u1.out.markD HM.out (by omega) (Apart.of_le u1.out x01.out (by omega)).symm (Apart.of_le u1.out x02.out (by omega)).symm)
  replace u2 := Lib.hid (u2.out.markD HM.out (by omega) (Apart.of_le u2.out x01.out (by omega)).symm (Apart.of_le u2.out x02.out (by omega)).symm)
  replace u3 := Lib.hid (u3.out.markD HM.out (by omega) (Apart.of_le u3.out x01.out (by omega)).symm (Apart.of_le u3.out x02.out (by omega)).symm)
  replace u4 := Lib.hid (u4.out.markD HM.out (by omega) (Apart.of_le u4.out x01.out (by omega)).symm (Apart.of_le u4.out x02.out (by omega)).symm)
  replace Bu := Lib.hid (Bu.out.markD HM.out x01.out x02.out (by omega) (by omega))
  replace Bx0 := Lib.hid (Bx0.out.markD HM.out x01.out x02.out (by omega) (by omega))
  replace g1 := Lib.hid (g1.out.markD HM.out (by omega) (Apart.of_le x01.out g1.out (by omega)) (Apart.of_le x02.out g1.out (by omega)))
  replace g2 := Lib.hid (g2.out.markD HM.out (by omega) (Apart.of_le x01.out g2.out (by omega)) (Apart.of_le x02.out g2.out (by omega)))
  replace g3 := Lib.hid (g3.out.markD HM.out (by omega) (Apart.of_le x01.out g3.out (by omega)) (Apart.of_le x02.out g3.out (by omega)))
  replace g4 := Lib.hid (g4.out.markD HM.out (by omega) (Apart.of_le x01.out g4.out (by omega)) (Apart.of_le x02.out g4.out (by omega)))
  replace Bg := Lib.hid (Bg.out.markD HM.out x01.out x02.out (by omega) (by omega))
  replace x01 := Lib.hid hi0
  replace x02 := Lib.hid hi1
  clear HM hi0 hi1
  clear x01 x02 Bx0
  have vgl := Bg.out.lt
  have vg0 := (Bg.out.2 0 _ rfl).1
  have vg1 := (Bg.out.2 1 _ rfl).1
  have vg2 := (Bg.out.2 2 _ rfl).1
  have vg3 := (Bg.out.2 3 _ rfl).1
  have vg4 := (Bg.out.2 4 _ rfl).1
  have vg5 := (Bg.out.2 5 _ rfl).1
  have vg6 := (Bg.out.2 6 _ rfl).1
  have vul := Bu.out.lt
  have vu0 := (Bu.out.2 0 _ rfl).1
  have vu1 := (Bu.out.2 1 _ rfl).1
  have vu2 := (Bu.out.2 2 _ rfl).1
  have vu3 := (Bu.out.2 3 _ rfl).1
  have vu4 := (Bu.out.2 4 _ rfl).1
  have vu5 := (Bu.out.2 5 _ rfl).1
  have vu6 := (Bu.out.2 6 _ rfl).1
  go_wp2_with fail
  refine (eqBoth_same g1.out g2.out g3.out g4.out u1.out u2.out u3.out u4.out (by omega) (by omega) (by omega) (by omega) (by omega) (by omega) (by omega) (by omega)).mono ?_
  clear vgl vg0 vg1 vg2 vg3 vg4 vg5 vg6 vul vu0 vu1 vu2 vu3 vu4 vu5 vu6
  rintro e w13 ⟨rfl, hb⟩
  (try simp only [World.size_alloc, World.size_setCell, World.size_drew] at hb)
  have HB := Lib.hid hb
  clear hb
  have s13 := HB.out.size
  (try simp only [World.size_alloc, World.size_setCell, World.size_drew] at s13)
  replace a01 := Lib.hid (a01.out.below HB.out (by omega))
  replace a02 := Lib.hid (a02.out.below HB.out (by omega))
  replace Ba0 := Lib.hid (Ba0.out.below HB.out (by omega))
  replace u1 := Lib.hid (u1.out.below HB.out (by omega))
  replace u2 := Lib.hid (u2.out.below HB.out (by omega))
  replace u3 := Lib.hid (u3.out.below HB.out (by omega))
  replace u4 := Lib.hid (u4.out.below HB.out (by omega))
  replace Bu := Lib.hid (Bu.out.below HB.out (by omega))
  replace g1 := Lib.hid (g1.out.below HB.out (by omega))
  replace g2 := Lib.hid (g2.out.below HB.out (by omega))
  replace g3 := Lib.hid (g3.out.below HB.out (by omega))
  replace g4 := Lib.hid (g4.out.below HB.out (by omega))
  replace Bg := Lib.hid (Bg.out.below HB.out (by omega))
  replace EB := Lib.hid (below_step HB.out EB.out (by omega))
  clear HB
  have vgl := Bg.out.lt
  have vg0 := (Bg.out.2 0 _ rfl).1
  have vg1 := (Bg.out.2 1 _ rfl).1
  have vg2 := (Bg.out.2 2 _ rfl).1
  have vg3 := (Bg.out.2 3 _ rfl).1
  have vg4 := (Bg.out.2 4 _ rfl).1
  have vg5 := (Bg.out.2 5 _ rfl).1
  have vg6 := (Bg.out.2 6 _ rfl).1
  go_wp2_with fail
  refine (markBoth_any g1.out g2.out g3.out g4.out g1_g2.out g3_g1.out g3_g2.out g4_g1.out g4_g2.out g4_g3.out (by omega) (by omega) (by omega) (by omega) (by omega) (by omega) hl_g1 hl_g2 hl_g3 hl_g4).mono ?_
  clear vgl vg0 vg1 vg2 vg3 vg4 vg5 vg6
  rintro e w14 ⟨rfl, hm, hi0, hi1, hi2, hi3⟩
  have HM := Lib.hid hm
  have s14 := HM.out.size
  clear hm
  replace EB := Lib.hid (below_markB EB.out HM.out g1.out g2.out g3.out g4.out (by omega) (by omega) (by omega) (by omega) (by omega))
  replace a01 := Lib.hid (a01.out.markB HM.out (by omega) (Apart.of_le a01.out g1.out (by omega)).symm (Apart.of_le a01.out g2.out (by omega)).symm (Apart.of_le a01.out g3.out (by omega)).symm (Apart.of_le a01.out g4.out (by omega)).symm)
  replace a02 := Lib.hid (a02.out.markB HM.out (by omega) (Apart.of_le a02.out g1.out (by omega)).symm (Apart.of_le a02.out g2.out (by omega)).symm (Apart.of_le a02.out g3.out (by omega)).symm (Apart.of_le a02.out g4.out (by omega)).symm)
  replace Ba0 := Lib.hid (Ba0.out.markB HM.out g1.out g2.out g3.out g4.out (by omega) (by omega) (by omega) (by omega))
  replace u1 := Lib.hid (u1.out.markB HM.out (by omega) (Apart.of_le u1.out g1.out (by omega)).symm (Apart.of_le u1.out g2.out (by omega)).symm (Apart.of_le u1.out g3.out (by omega)).symm (Apart.of_le u1.out g4.out (by omega)).symm)
  replace u2 := Lib.hid (u2.out.markB HM.out (by omega) (Apart.of_le u2.out g1.out (by omega)).symm (Apart.of_le u2.out g2.out (by omega)).symm (Apart.of_le u2.out g3.out (by omega)).symm (Apart.of_le u2.out g4.out (by omega)).symm)
  replace u3 := Lib.hid (u3.out.markB HM.out (by omega) (Apart.of_le u3.out g1.out (by omega)).symm (Apart.of_le u3.out g2.out (by omega)).symm (Apart.of_le u3.out g3.out (by omega)).symm (Apart.of_le u3.out g4.out (by omega)).symm)
  replace u4 := Lib.hid (u4.out.markB HM.out (by omega) (Apart.of_le u4.out g1.out (by omega)).symm (Apart.of_le u4.out g2.out (by omega)).symm (Apart.of_le u4.out g3.out (by omega)).symm (Apart.of_le u4.out g4.out (by omega)).symm)
  replace Bu := Lib.hid (Bu.out.markB HM.out g1.out g2.out g3.out g4.out (by omega) (by omega) (by omega) (by omega))
  replace Bg := Lib.hid (Bg.out.markB HM.out g1.out g2.out g3.out g4.out (by omega) (by omega) (by omega) (by omega))
  replace g1 := Lib.hid hi0
  replace g2 := Lib.hid hi1
  replace g3 := Lib.hid hi2
  replace g4 := Lib.hid hi3
  clear HM hi0 hi1 hi2 hi3
  have vgl := Bg.out.lt
  have vg0 := (Bg.out.2 0 _ rfl).1
  have vg1 := (Bg.out.2 1 _ rfl).1
  have vg2 := (Bg.out.2 2 _ rfl).1
  have vg3 := (Bg.out.2 3 _ rfl).1
  have vg4 := (Bg.out.2 4 _ rfl).1
  have vg5 := (Bg.out.2 5 _ rfl).1
  have vg6 := (Bg.out.2 6 _ rfl).1
  go_wp2_with fail
  refine (heldBoth_any g1.out g2.out g3.out g4.out (by omega) (by omega) (by omega) (by omega) (by omega) (by omega) hl_g1 hl_g2 hl_g3 hl_g4).mono ?_
  clear vgl vg0 vg1 vg2 vg3 vg4 vg5 vg6
  rintro e w15 ⟨rfl, hb⟩
  (try simp only [World.size_alloc, World.size_setCell, World.size_drew] at hb)
  have HB := Lib.hid hb
  clear hb
  have s15 := HB.out.size
  (try simp only [World.size_alloc, World.size_setCell, World.size_drew] at s15)
  replace a01 := Lib.hid (a01.out.below HB.out (by omega))
  replace a02 := Lib.hid (a02.out.below HB.out (by omega))
  replace Ba0 := Lib.hid (Ba0.out.below HB.out (by omega))
  replace u1 := Lib.hid (u1.out.below HB.out (by omega))
  replace u2 := Lib.hid (u2.out.below HB.out (by omega))
  replace u3 := Lib.hid (u3.out.below HB.out (by omega))
  replace u4 := Lib.hid (u4.out.below HB.out (by omega))
  replace Bu := Lib.hid (Bu.out.below HB.out (by omega))
  replace g1 := Lib.hid (g1.out.below HB.out (by omega))
  replace g2 := Lib.hid (g2.out.below HB.out (by omega))
  replace g3 := Lib.hid (g3.out.below HB.out (by omega))
  replace g4 := Lib.hid (g4.out.below HB.out (by omega))
  replace Bg := Lib.hid (Bg.out.below HB.out (by omega))
  replace EB := Lib.hid (below_step HB.out EB.out (by omega))
  clear HB
  have va0l := Ba0.out.lt
  have va00 := (Ba0.out.2 0 _ rfl).1
  have va01 := (Ba0.out.2 1 _ rfl).1
  have va02 := (Ba0.out.2 2 _ rfl).1
  have va03 := (Ba0.out.2 3 _ rfl).1
  go_wp2_with fail
  refine (toDevice_any a01.out a02.out (by omega) (by omega) hn0 hn0' hp0 hq0).mono ?_
  clear va0l va00 va01 va02 va03
  rintro e w16 ⟨Ar0, nr0, cr0, Ar0', nr0', cr0', rfl, ⟨hcr0, hcr0'⟩, hb, hd, hd', ha, _, _⟩
  (try simp only [World.size_alloc, World.size_setCell, World.size_drew] at hb)
  have HB := Lib.hid hb
  clear hb
  have s16 := HB.out.size
  (try simp only [World.size_alloc, World.size_setCell, World.size_drew] at s16)
  replace a01 := Lib.hid (a01.out.below HB.out (by omega))
  replace a02 := Lib.hid (a02.out.below HB.out (by omega))
  replace Ba0 := Lib.hid (Ba0.out.below HB.out (by omega))
  replace u1 := Lib.hid (u1.out.below HB.out (by omega))
  replace u2 := Lib.hid (u2.out.below HB.out (by omega))
  replace u3 := Lib.hid (u3.out.below HB.out (by omega))
  replace u4 := Lib.hid (u4.out.below HB.out (by omega))
  replace Bu := Lib.hid (Bu.out.below HB.out (by omega))
  replace g1 := Lib.hid (g1.out.below HB.out (by omega))
  replace g2 := Lib.hid (g2.out.below HB.out (by omega))
  replace g3 := Lib.hid (g3.out.below HB.out (by omega))
  replace g4 := Lib.hid (g4.out.below HB.out (by omega))
  replace Bg := Lib.hid (Bg.out.below HB.out (by omega))
  replace EB := Lib.hid (below_step HB.out EB.out (by omega))
  clear HB
  have r01 := Lib.hid hd
  have r02 := Lib.hid hd'
  have r0a := Lib.hid ha
  clear hd hd' ha
  have hr0 : nr0 ≤ 1048576 := by have := r01.out.len; have := HLa0.out; omega
  have hr0' : nr0' ≤ 1048576 := by have := r02.out.len; have := HLb0.out; omega
  go_wp2_with fail
  refine (NewBoth_x (_hp := hp0) (_hq := hq0) r01.out r02.out (by omega) (by omega) hcr0 hcr0' hr0 hr0' hz1).mono ?_
  rintro e w17 ⟨Ah, nh, ch, Ah', nh', ch', Eh, mh, dh, Fh, lh, kh, rfl, ⟨hch, hch', hch'', hch'''⟩, hb, ⟨⟨⟨hd0, hd1, ha0, _, _⟩, hd2, ha1, ha2, _⟩, hd3, ha3, ha4, ha5⟩⟩
  (try simp only [World.size_alloc, World.size_setCell, World.size_drew] at hb)
  have HB := Lib.hid hb
  clear hb
  have s17 := HB.out.size
  (try simp only [World.size_alloc, World.size_setCell, World.size_drew] at s17)
  replace a01 := Lib.hid (a01.out.below HB.out (by omega))
  replace a02 := Lib.hid (a02.out.below HB.out (by omega))
  replace Ba0 := Lib.hid (Ba0.out.below HB.out (by omega))
  replace u1 := Lib.hid (u1.out.below HB.out (by omega))
  replace u2 := Lib.hid (u2.out.below HB.out (by omega))
  replace u3 := Lib.hid (u3.out.below HB.out (by omega))
  replace u4 := Lib.hid (u4.out.below HB.out (by omega))
  replace Bu := Lib.hid (Bu.out.below HB.out (by omega))
  replace g1 := Lib.hid (g1.out.below HB.out (by omega))
  replace g2 := Lib.hid (g2.out.below HB.out (by omega))
  replace g3 := Lib.hid (g3.out.below HB.out (by omega))
  replace g4 := Lib.hid (g4.out.below HB.out (by omega))
  replace Bg := Lib.hid (Bg.out.below HB.out (by omega))
  replace r01 := Lib.hid (r01.out.below HB.out (by omega))
  replace r02 := Lib.hid (r02.out.below HB.out (by omega))
  replace EB := Lib.hid (below_step HB.out EB.out (by omega))
  clear HB
  have h1 := Lib.hid hd0
  have h2 := Lib.hid hd1
  have h3 := Lib.hid hd2
  have h4 := Lib.hid hd3
  clear hd0 hd1 hd2 hd3
  have h1_h2 := Lib.hid ha0
  clear ha0
  have h3_h1 := Lib.hid ha1
  clear ha1
  have h3_h2 := Lib.hid ha2
  clear ha2
  have h4_h1 := Lib.hid ha3
  clear ha3
  have h4_h2 := Lib.hid ha4
  clear ha4
  have h4_h3 := Lib.hid ha5
  clear ha5
  obtain ⟨hx0, hx1, hx2, hx3⟩ := newBOut_le D0 p0 S0 q0 z1
  have hl_h1 : nh ≤ 1048576 := by have := h1.out.len; omega
  have hl_h2 : nh' ≤ 1048576 := by have := h2.out.len; omega
  have hl_h3 : mh ≤ 1048576 := by have := h3.out.len; omega
  have hl_h4 : lh ≤ 1048576 := by have := h4.out.len; omega
  clear hx0 hx1 hx2 hx3
  clear r01 r02
  have vul := Bu.out.lt
  have vu0 := (Bu.out.2 0 _ rfl).1
  have vu1 := (Bu.out.2 1 _ rfl).1
  have vu2 := (Bu.out.2 2 _ rfl).1
  have vu3 := (Bu.out.2 3 _ rfl).1
  have vu4 := (Bu.out.2 4 _ rfl).1
  have vu5 := (Bu.out.2 5 _ rfl).1
  have vu6 := (Bu.out.2 6 _ rfl).1
  go_wp2_with fail
  clear vul vu0 vu1 vu2 vu3 vu4 vu5 vu6
  replace a01 := Lib.hid (a01.out.alloc (by omega) (.cells #[.slice Ah nh ch, .int .i64 ((newBOut D0 p0 S0 q0 z1).1.p), .slice Ah' nh' ch', .int .i64 ((newBOut D0 p0 S0 q0 z1).1.q), .slice Eh mh dh, .slice Fh lh kh, .int .i64 ((newBOut D0 p0 S0 q0 z1).1.z)] 60))
  replace a02 := Lib.hid (a02.out.alloc (by omega) (.cells #[.slice Ah nh ch, .int .i64 ((newBOut D0 p0 S0 q0 z1).1.p), .slice Ah' nh' ch', .int .i64 ((newBOut D0 p0 S0 q0 z1).1.q), .slice Eh mh dh, .slice Fh lh kh, .int .i64 ((newBOut D0 p0 S0 q0 z1).1.z)] 60))
  replace Ba0 := Lib.hid (Ba0.out.alloc (.cells #[.slice Ah nh ch, .int .i64 ((newBOut D0 p0 S0 q0 z1).1.p), .slice Ah' nh' ch', .int .i64 ((newBOut D0 p0 S0 q0 z1).1.q), .slice Eh mh dh, .slice Fh lh kh, .int .i64 ((newBOut D0 p0 S0 q0 z1).1.z)] 60))
  replace u1 := Lib.hid (u1.out.alloc (by omega) (.cells #[.slice Ah nh ch, .int .i64 ((newBOut D0 p0 S0 q0 z1).1.p), .slice Ah' nh' ch', .int .i64 ((newBOut D0 p0 S0 q0 z1).1.q), .slice Eh mh dh, .slice Fh lh kh, .int .i64 ((newBOut D0 p0 S0 q0 z1).1.z)] 60))
  replace u2 := Lib.hid (u2.out.alloc (by omega) (.cells #[.slice Ah nh ch, .int .i64 ((newBOut D0 p0 S0 q0 z1).1.p), .slice Ah' nh' ch', .int .i64 ((newBOut D0 p0 S0 q0 z1).1.q), .slice Eh mh dh, .slice Fh lh kh, .int .i64 ((newBOut D0 p0 S0 q0 z1).1.z)] 60))
  replace u3 := Lib.hid (u3.out.alloc (by omega) (.cells #[.slice Ah nh ch, .int .i64 ((newBOut D0 p0 S0 q0 z1).1.p), .slice Ah' nh' ch', .int .i64 ((newBOut D0 p0 S0 q0 z1).1.q), .slice Eh mh dh, .slice Fh lh kh, .int .i64 ((newBOut D0 p0 S0 q0 z1).1.z)] 60))
  replace u4 := Lib.hid (u4.out.alloc (by omega) (.cells #[.slice Ah nh ch, .int .i64 ((newBOut D0 p0 S0 q0 z1).1.p), .slice Ah' nh' ch', .int .i64 ((newBOut D0 p0 S0 q0 z1).1.q), .slice Eh mh dh, .slice Fh lh kh, .int .i64 ((newBOut D0 p0 S0 q0 z1).1.z)] 60))
  replace Bu := Lib.hid (Bu.out.alloc (.cells #[.slice Ah nh ch, .int .i64 ((newBOut D0 p0 S0 q0 z1).1.p), .slice Ah' nh' ch', .int .i64 ((newBOut D0 p0 S0 q0 z1).1.q), .slice Eh mh dh, .slice Fh lh kh, .int .i64 ((newBOut D0 p0 S0 q0 z1).1.z)] 60))
  replace g1 := Lib.hid (g1.out.alloc (by omega) (.cells #[.slice Ah nh ch, .int .i64 ((newBOut D0 p0 S0 q0 z1).1.p), .slice Ah' nh' ch', .int .i64 ((newBOut D0 p0 S0 q0 z1).1.q), .slice Eh mh dh, .slice Fh lh kh, .int .i64 ((newBOut D0 p0 S0 q0 z1).1.z)] 60))
  replace g2 := Lib.hid (g2.out.alloc (by omega) (.cells #[.slice Ah nh ch, .int .i64 ((newBOut D0 p0 S0 q0 z1).1.p), .slice Ah' nh' ch', .int .i64 ((newBOut D0 p0 S0 q0 z1).1.q), .slice Eh mh dh, .slice Fh lh kh, .int .i64 ((newBOut D0 p0 S0 q0 z1).1.z)] 60))
  replace g3 := Lib.hid (g3.out.alloc (by omega) (.cells #[.slice Ah nh ch, .int .i64 ((newBOut D0 p0 S0 q0 z1).1.p), .slice Ah' nh' ch', .int .i64 ((newBOut D0 p0 S0 q0 z1).1.q), .slice Eh mh dh, .slice Fh lh kh, .int .i64 ((newBOut D0 p0 S0 q0 z1).1.z)] 60))
  replace g4 := Lib.hid (g4.out.alloc (by omega) (.cells #[.slice Ah nh ch, .int .i64 ((newBOut D0 p0 S0 q0 z1).1.p), .slice Ah' nh' ch', .int .i64 ((newBOut D0 p0 S0 q0 z1).1.q), .slice Eh mh dh, .slice Fh lh kh, .int .i64 ((newBOut D0 p0 S0 q0 z1).1.z)] 60))
  replace Bg := Lib.hid (Bg.out.alloc (.cells #[.slice Ah nh ch, .int .i64 ((newBOut D0 p0 S0 q0 z1).1.p), .slice Ah' nh' ch', .int .i64 ((newBOut D0 p0 S0 q0 z1).1.q), .slice Eh mh dh, .slice Fh lh kh, .int .i64 ((newBOut D0 p0 S0 q0 z1).1.z)] 60))
  replace h1 := Lib.hid (h1.out.alloc (by omega) (.cells #[.slice Ah nh ch, .int .i64 ((newBOut D0 p0 S0 q0 z1).1.p), .slice Ah' nh' ch', .int .i64 ((newBOut D0 p0 S0 q0 z1).1.q), .slice Eh mh dh, .slice Fh lh kh, .int .i64 ((newBOut D0 p0 S0 q0 z1).1.z)] 60))
  replace h2 := Lib.hid (h2.out.alloc (by omega) (.cells #[.slice Ah nh ch, .int .i64 ((newBOut D0 p0 S0 q0 z1).1.p), .slice Ah' nh' ch', .int .i64 ((newBOut D0 p0 S0 q0 z1).1.q), .slice Eh mh dh, .slice Fh lh kh, .int .i64 ((newBOut D0 p0 S0 q0 z1).1.z)] 60))
  replace h3 := Lib.hid (h3.out.alloc (by omega) (.cells #[.slice Ah nh ch, .int .i64 ((newBOut D0 p0 S0 q0 z1).1.p), .slice Ah' nh' ch', .int .i64 ((newBOut D0 p0 S0 q0 z1).1.q), .slice Eh mh dh, .slice Fh lh kh, .int .i64 ((newBOut D0 p0 S0 q0 z1).1.z)] 60))
  replace h4 := Lib.hid (h4.out.alloc (by omega) (.cells #[.slice Ah nh ch, .int .i64 ((newBOut D0 p0 S0 q0 z1).1.p), .slice Ah' nh' ch', .int .i64 ((newBOut D0 p0 S0 q0 z1).1.q), .slice Eh mh dh, .slice Fh lh kh, .int .i64 ((newBOut D0 p0 S0 q0 z1).1.z)] 60))
  replace EB := Lib.hid (EB.out.alloc (by omega) (.cells #[.slice Ah nh ch, .int .i64 ((newBOut D0 p0 S0 q0 z1).1.p), .slice Ah' nh' ch', .int .i64 ((newBOut D0 p0 S0 q0 z1).1.q), .slice Eh mh dh, .slice Fh lh kh, .int .i64 ((newBOut D0 p0 S0 q0 z1).1.z)] 60))
  have Bh := Lib.hid (Box.new w17 60 [.slice Ah nh ch, .int .i64 ((newBOut D0 p0 S0 q0 z1).1.p), .slice Ah' nh' ch', .int .i64 ((newBOut D0 p0 S0 q0 z1).1.q), .slice Eh mh dh, .slice Fh lh kh, .int .i64 ((newBOut D0 p0 S0 q0 z1).1.z)])
  have s18 : w17.heap.size + 1 ≤ (w17.alloc (.cells #[.slice Ah nh ch, .int .i64 ((newBOut D0 p0 S0 q0 z1).1.p), .slice Ah' nh' ch', .int .i64 ((newBOut D0 p0 S0 q0 z1).1.q), .slice Eh mh dh, .slice Fh lh kh, .int .i64 ((newBOut D0 p0 S0 q0 z1).1.z)] 60)).heap.size := by simp
  generalize w17.alloc (.cells #[.slice Ah nh ch, .int .i64 ((newBOut D0 p0 S0 q0 z1).1.p), .slice Ah' nh' ch', .int .i64 ((newBOut D0 p0 S0 q0 z1).1.q), .slice Eh mh dh, .slice Fh lh kh, .int .i64 ((newBOut D0 p0 S0 q0 z1).1.z)] 60) = w18 at *
  refine (eqBoth_same h1.out h2.out h3.out h4.out u1.out u2.out u3.out u4.out (by omega) (by omega) (by omega) (by omega) (by omega) (by omega) (by omega) (by omega)).mono ?_
  rintro e w19 ⟨rfl, hb⟩
  (try simp only [World.size_alloc, World.size_setCell, World.size_drew] at hb)
  have HB := Lib.hid hb
  clear hb
  have s19 := HB.out.size
  (try simp only [World.size_alloc, World.size_setCell, World.size_drew] at s19)
  replace a01 := Lib.hid (a01.out.below HB.out (by omega))
  replace a02 := Lib.hid (a02.out.below HB.out (by omega))
  replace Ba0 := Lib.hid (Ba0.out.below HB.out (by omega))
  replace u1 := Lib.hid (u1.out.below HB.out (by omega))
  replace u2 := Lib.hid (u2.out.below HB.out (by omega))
  replace u3 := Lib.hid (u3.out.below HB.out (by omega))
  replace u4 := Lib.hid (u4.out.below HB.out (by omega))
  replace Bu := Lib.hid (Bu.out.below HB.out (by omega))
  replace g1 := Lib.hid (g1.out.below HB.out (by omega))
  replace g2 := Lib.hid (g2.out.below HB.out (by omega))
  replace g3 := Lib.hid (g3.out.below HB.out (by omega))
  replace g4 := Lib.hid (g4.out.below HB.out (by omega))
  replace Bg := Lib.hid (Bg.out.below HB.out (by omega))
  replace h1 := Lib.hid (h1.out.below HB.out (by omega))
  replace h2 := Lib.hid (h2.out.below HB.out (by omega))
  replace h3 := Lib.hid (h3.out.below HB.out (by omega))
  replace h4 := Lib.hid (h4.out.below HB.out (by omega))
  replace Bh := Lib.hid (Bh.out.below HB.out (by omega))
  replace EB := Lib.hid (below_step HB.out EB.out (by omega))
  clear HB
  have vgl := Bg.out.lt
  have vg0 := (Bg.out.2 0 _ rfl).1
  have vg1 := (Bg.out.2 1 _ rfl).1
  have vg2 := (Bg.out.2 2 _ rfl).1
  have vg3 := (Bg.out.2 3 _ rfl).1
  have vg4 := (Bg.out.2 4 _ rfl).1
  have vg5 := (Bg.out.2 5 _ rfl).1
  have vg6 := (Bg.out.2 6 _ rfl).1
  go_wp2_with fail
  refine (heldBoth_any g1.out g2.out g3.out g4.out (by omega) (by omega) (by omega) (by omega) (by omega) (by omega) hl_g1 hl_g2 hl_g3 hl_g4).mono ?_
  clear vgl vg0 vg1 vg2 vg3 vg4 vg5 vg6
  rintro e w20 ⟨rfl, hb⟩
  (try simp only [World.size_alloc, World.size_setCell, World.size_drew] at hb)
  have HB := Lib.hid hb
  clear hb
  have s20 := HB.out.size
  (try simp only [World.size_alloc, World.size_setCell, World.size_drew] at s20)
  replace a01 := Lib.hid (a01.out.below HB.out (by omega))
  replace a02 := Lib.hid (a02.out.below HB.out (by omega))
  replace Ba0 := Lib.hid (Ba0.out.below HB.out (by omega))
  replace u1 := Lib.hid (u1.out.below HB.out (by omega))
  replace u2 := Lib.hid (u2.out.below HB.out (by omega))
  replace u3 := Lib.hid (u3.out.below HB.out (by omega))
  replace u4 := Lib.hid (u4.out.below HB.out (by omega))
  replace Bu := Lib.hid (Bu.out.below HB.out (by omega))
  replace g1 := Lib.hid (g1.out.below HB.out (by omega))
  replace g2 := Lib.hid (g2.out.below HB.out (by omega))
  replace g3 := Lib.hid (g3.out.below HB.out (by omega))
  replace g4 := Lib.hid (g4.out.below HB.out (by omega))
  replace Bg := Lib.hid (Bg.out.below HB.out (by omega))
  replace h1 := Lib.hid (h1.out.below HB.out (by omega))
  replace h2 := Lib.hid (h2.out.below HB.out (by omega))
  replace h3 := Lib.hid (h3.out.below HB.out (by omega))
  replace h4 := Lib.hid (h4.out.below HB.out (by omega))
  replace Bh := Lib.hid (Bh.out.below HB.out (by omega))
  replace EB := Lib.hid (below_step HB.out EB.out (by omega))
  clear HB
  go_wp2
  go_ret
  exact ⟨rfl, EB.out⟩

theorem contract (H : Type) (enc : TypeId × Value → H) (W : World) (base : Nat) (args : Array Value) (ds gs : List (DataW H)) (before : List MemPlace)
    (hval : ∀ (j : Nat) t v, Try.f7.params[j]? = some t → args[j]? = some v → Value.okWide Try.prog W .any base t v)
    (hW : DataW.Whole enc Try.prog Try.f7.params.toList Rows.fnExactNewBothSpec.vars false W args.toList ds gs before) :
    Calls Try.prog 7 args W fun e W' => ∃ v, e = .returned v ∧ Rows.fnExactNewBothSpec.post enc Try.prog Try.f7 false true false false W args v W' := by
  have hW' := hW
  have hlt : ∀ p ∈ before, p.block < W.heap.size := fun p hp => hW.lt p hp
  obtain ⟨p, q, hA0, hV, rfl, hfz, hnd⟩ := hW
  have hA : DataW.TrodAll enc Try.prog W 0 (fun _ => true) true Try.f7.params.toList args.toList ds p := hA0
  rw [Try.params7] at hA hval
  obtain ⟨v0, vs0, d0, ds0, p0, q0, hargs, rfl, rfl, h0, r0⟩ := trodAll_cons hA
  obtain ⟨v1, vs1, d1, ds1, p1, q1, rfl, rfl, rfl, h1, r1⟩ := trodAll_cons r0
  obtain ⟨rfl, rfl, rfl⟩ := trodAll_nil r1
  obtain rfl : args = #[v0, v1] := by cases args; simp_all
  obtain ⟨rfl, rfl⟩ := trodVars_none hV
  obtain ⟨A, n, c, x, A', n', c', y, D, S, rfl, hD0, hS0, hx0, hy0⟩ := arg_device (hval 0 _ v0 rfl rfl) h0 (fun p hp => hlt p (by simp [hp])) (fun b o hp => hfz b o (by simp [hp]))
  obtain ⟨y, rfl, hz1⟩ := arg_intv (hval 1 _ v1 rfl rfl) h1
  refine (walk _ _ _ _ _ _ _ _ _ _ _ W hD0 hS0 hx0 hy0 hz1).mono fun e W' hh => ?_
  obtain ⟨rfl, hb⟩ := hh
  exact ⟨_, rfl, law_post laidOut (tys_of (by rw [Try.params7]; kernel_rfl)) hW' rfl rfl rfl Try.underlying4 hb⟩

set_option maxRecDepth 100000 in
theorem lifted (os : Os) (started : os.Started) (H : Type) (enc : TypeId × Value → H) :
    ReturnsInHanded {} Try.checked os 7 .any (Rows.fnExactNewBothSpec.pre6 enc Try.prog Try.f7 Rows.fnExactNewBothRow.domain false) (Rows.fnExactNewBothSpec.post enc Try.prog Try.f7 false true false false) := by
  refine returnsInHanded_of_change (C := Try.checked) own started (by kernel_rfl) Try.func7
    (ChangeSpec.witness6 (C := Try.checked) false ⟨#[], #[.agg #[.slice none 0 0, .int .i64 0, .slice none 0 0, .int .i64 0], .int .i64 0], []⟩ 8 (by kernel_rfl) (by kernel_rfl) (by kernel_rfl) (by kernel_rfl)) ?_
  intro W base args ds gs before hval hW _ _
  exact contract H enc W base args ds gs before hval hW

theorem holds : Rows.FnExactNewBothSaid :=
  OpenClaim.holds_of_wide 7 Try.f7 rfl rfl rfl rfl rfl rfl rfl ⟨rfl, rfl, rfl, rfl, rfl⟩ rfl rfl rfl rfl rfl (by kernel_rfl) Try.func7 (by kernel_rfl)
    (of_decide_eq_true (by kernel_rfl)) (by unfold Func.isWrapper; first | (rw [if_pos (by decide +kernel)]; kernel_rfl) | (rw [if_neg (by decide +kernel)]; exact ⟨rfl, rfl⟩))
    (fun os started H enc _ => lifted os started H enc)
end ExactNewBoth
end Go.Proofs.Ytjiecnideghffaa
