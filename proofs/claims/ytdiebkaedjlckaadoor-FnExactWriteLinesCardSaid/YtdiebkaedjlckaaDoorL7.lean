/- A writer by the exact laws' own helpers: its size, its copy, its comparison, its marks; a writer among a law's arguments. -/
import Derived.Test.YtdiebkaedjlckaaDoorL6
namespace Go.Proofs.YtdiebkaedjlckaaDoor
open Go.ChangeShapes Go.WideShapes Go.ChangeAt Go.RowKit
set_option maxRecDepth 10000
set_option linter.unusedSimpArgs false
set_option linter.unusedVariables false

set_option maxHeartbeats 1000000 in
theorem szWriter_any {A A' A2 : Option Addr} {n c n' c' n2 c2 : Nat} {p q z left : Int} {w : World} (hn : n ≤ 9223372036854775807) (hn' : n' ≤ 9223372036854775807) (hn2 : n2 ≤ 9223372036854775807) (h0 : 0 ≤ left) (h1 : left ≤ 1048576) :
    Calls Tryd.prog 12 #[.agg #[.slice (A) n c, .int .i64 (p), .slice (A') n' c', .int .i64 (q), .slice (A2) n2 c2, .int .i64 (z)], .int .i64 left] w (SzPost left (n + n' + n2) w) := by
  have X0 := Lib.hid (Box.new w 26 [.slice (A) n c, .int .i64 (p), .slice (A') n' c', .int .i64 (q), .slice (A2) n2 c2, .int .i64 (z)])
  go_enter Tryd.func12, Tryd.ntmps12
  go_wp2_with fail
  refine (szDevice_any hn hn' (by omega) (by omega)).mono ?_
  rintro e w1 ⟨r, rfl, hr, hb⟩
  (try simp only [World.size_alloc, World.size_setCell, World.size_drew] at hb)
  have X1 := Lib.hid (X0.out.below hb (by omega))
  have HB := Lib.hid hb
  clear hb X0
  have x0 := (X1.out.2 0 _ rfl).1; have x1 := (X1.out.2 1 _ rfl).1; have x2 := (X1.out.2 2 _ rfl).1; have x3 := (X1.out.2 3 _ rfl).1; have x4 := (X1.out.2 4 _ rfl).1; have x5 := (X1.out.2 5 _ rfl).1
  go_wp2_with (go_at_call 48; refine (szIntS_any (by omega) (by omega) (by omega)).mono ?_; rintro e w' ⟨r1, rfl, hr1, rfl⟩)
  all_goals
    go_ret
    exact ⟨_, rfl, by omega, below_step HB.out (by go_grown) (by omega)⟩

theorem arg_writer {H : Type} {enc : TypeId × Value → H} {W : World} {base : Nat} {v : Value} {d : DataW H} {p0 : List MemPlace} (hval : Value.okWide Tryd.prog W .any base 26 v) (h : DataW.Trod enc Tryd.prog W 0 (fun _ => true) true 26 v d p0)
    (hlt : ∀ p ∈ p0, p.block < W.heap.size) (hfz : ∀ b off, MemPlace.cell b off ∈ p0 → W.frozen? ⟨b, off, none⟩ = false) :
    ∃ A n c p A' n' c' q A2 n2 c2 z D S R, v = .agg #[.slice (A) n c, .int .i64 (p), .slice (A') n' c', .int .i64 (q), .slice (A2) n2 c2, .int .i64 (z)] ∧ Ints W 0 W.heap.size A n D ∧ Ints W 0 W.heap.size A' n' S ∧ Ints W 0 W.heap.size A2 n2 R ∧ okInt p ∧ okInt q ∧ okInt z := by
  obtain ⟨cs, rfl, hsz⟩ := okWide_struct Tryd.underlying26 hval
  have hc6 : Tryd.prog.cellsOf 26 = 6 := by kernel_rfl
  have hc4 : Tryd.prog.cellsOf 24 = 4 := by kernel_rfl
  have hcl : Tryd.prog.cellsOf 22 = 1 := by kernel_rfl
  obtain ⟨c0, c1, c2, c3, c4, c5, rfl⟩ : ∃ c0 c1 c2 c3 c4 c5, cs = #[c0, c1, c2, c3, c4, c5] := by
    exact array6 (hsz.trans hc6)
  obtain ⟨fuel, hf⟩ := h
  obtain ⟨y0, y1, y2, n, hx, _, h0, h1, h2⟩ := Go.Deep.trod_struct3 Tryd.underlying26 hf
  simp only [Value.cells, hc4, hcl, cellsInt, List.drop_succ_cons, List.drop_zero, List.take_succ_cons, List.take_zero] at h0 h1 h2
  obtain ⟨x0, x1, x2, x3, m, hx', _, k0, k1, k2, k3⟩ := Go.Joins.trod_struct4 Tryd.underlying24 h0
  have e0 : p0 = y0.2 ++ (y1.2 ++ y2.2) := (Prod.mk.inj hx).2
  have e1 : y0.2 = x0.2 ++ (x1.2 ++ (x2.2 ++ x3.2)) := by rw [hx']
  subst e0
  obtain ⟨A, na, c, D, rfl, _, _, hD⟩ := arg_ints (v := c0) Tryd.underlying22 Tryd.underlying3 cellsInt (by simpa [hcl] using k0) (fun p hp => hlt p (by simp [e1, hp])) (fun b o hp => hfz b o (by simp [e1, hp]))
  obtain ⟨p, rfl, hp⟩ := arg_int (v := c1) Tryd.underlying3 (by simpa [cellsInt] using k1)
  obtain ⟨A', n', c', S, rfl, _, _, hS⟩ := arg_ints (v := c2) Tryd.underlying22 Tryd.underlying3 cellsInt (by simpa [hcl] using k2) (fun p hp => hlt p (by simp [e1, hp])) (fun b o hp => hfz b o (by simp [e1, hp]))
  obtain ⟨q, rfl, hq⟩ := arg_int (v := c3) Tryd.underlying3 (by simpa [cellsInt] using k3)
  obtain ⟨A2, n2, c2, R, rfl, _, _, hR⟩ := arg_ints (v := c4) Tryd.underlying22 Tryd.underlying3 cellsInt h1 (fun p hp => hlt p (by simp [hp])) (fun b o hp => hfz b o (by simp [hp]))
  obtain ⟨z, rfl, hz⟩ := arg_int (v := c5) Tryd.underlying3 h2
  exact ⟨A, na, c, p, A', n', c', q, A2, n2, c2, z, D, S, R, rfl, hD, hS, hR, hp, hq, hz⟩

set_option maxHeartbeats 2000000 in
theorem toWriter_any {A A' A2 : Option Addr} {n c n' c' n2 c2 : Nat} {D S R : List Int} {p q z : Int} {w : World} {L L' B B' M C : Nat} (h : Ints w L B A n D) (h' : Ints w L' B' A' n' S) (g : Ints w M C A2 n2 R) (hB : B ≤ w.heap.size) (hB' : B' ≤ w.heap.size) (hC : C ≤ w.heap.size)
    (hn : n ≤ 1048576) (hn' : n' ≤ 1048576) (hn2 : n2 ≤ 1048576) (hp : okInt p) (hq : okInt q) (hz : okInt z) :
    Calls Tryd.prog 14 #[.agg #[.slice (A) n c, .int .i64 (p), .slice (A') n' c', .int .i64 (q), .slice (A2) n2 c2, .int .i64 (z)]] w (RdrPost D p S q R z w) := by
  have H1 := Lib.hid (((h.alloc hB (.cells #[.slice (A) n c, .int .i64 (p), .slice (A') n' c', .int .i64 (q), .slice (A2) n2 c2, .int .i64 (z)] 26)).alloc (by first | omega | (simp; omega) | (simp; done)) (.cells #[.slice none 0 0, .int .i64 0, .slice none 0 0, .int .i64 0, .slice none 0 0, .int .i64 0] 30)).alloc (by first | omega | (simp; omega) | (simp; done)) (.cells #[.slice none 0 0, .int .i64 0, .slice none 0 0, .int .i64 0, .slice none 0 0, .int .i64 0] 30))
  have H2 := Lib.hid (((h'.alloc hB' (.cells #[.slice (A) n c, .int .i64 (p), .slice (A') n' c', .int .i64 (q), .slice (A2) n2 c2, .int .i64 (z)] 26)).alloc (by first | omega | (simp; omega) | (simp; done)) (.cells #[.slice none 0 0, .int .i64 0, .slice none 0 0, .int .i64 0, .slice none 0 0, .int .i64 0] 30)).alloc (by first | omega | (simp; omega) | (simp; done)) (.cells #[.slice none 0 0, .int .i64 0, .slice none 0 0, .int .i64 0, .slice none 0 0, .int .i64 0] 30))
  have G1 := Lib.hid (((g.alloc hC (.cells #[.slice (A) n c, .int .i64 (p), .slice (A') n' c', .int .i64 (q), .slice (A2) n2 c2, .int .i64 (z)] 26)).alloc (by first | omega | (simp; omega) | (simp; done)) (.cells #[.slice none 0 0, .int .i64 0, .slice none 0 0, .int .i64 0, .slice none 0 0, .int .i64 0] 30)).alloc (by first | omega | (simp; omega) | (simp; done)) (.cells #[.slice none 0 0, .int .i64 0, .slice none 0 0, .int .i64 0, .slice none 0 0, .int .i64 0] 30))
  have X0 := Lib.hid (((Box.new w 26 [.slice (A) n c, .int .i64 (p), .slice (A') n' c', .int .i64 (q), .slice (A2) n2 c2, .int .i64 (z)]).alloc (.cells #[.slice none 0 0, .int .i64 0, .slice none 0 0, .int .i64 0, .slice none 0 0, .int .i64 0] 30)).alloc (.cells #[.slice none 0 0, .int .i64 0, .slice none 0 0, .int .i64 0, .slice none 0 0, .int .i64 0] 30))
  have R0 := Lib.hid ((Box.new (w.alloc (.cells #[.slice (A) n c, .int .i64 (p), .slice (A') n' c', .int .i64 (q), .slice (A2) n2 c2, .int .i64 (z)] 26)) 30 [.slice none 0 0, .int .i64 0, .slice none 0 0, .int .i64 0, .slice none 0 0, .int .i64 0]).alloc (.cells #[.slice none 0 0, .int .i64 0, .slice none 0 0, .int .i64 0, .slice none 0 0, .int .i64 0] 30))
  have O0 := Lib.hid (Box.new ((w.alloc (.cells #[.slice (A) n c, .int .i64 (p), .slice (A') n' c', .int .i64 (q), .slice (A2) n2 c2, .int .i64 (z)] 26)).alloc (.cells #[.slice none 0 0, .int .i64 0, .slice none 0 0, .int .i64 0, .slice none 0 0, .int .i64 0] 30)) 30 [.slice none 0 0, .int .i64 0, .slice none 0 0, .int .i64 0, .slice none 0 0, .int .i64 0])
  have E0 : Hid (Below w.heap.size w (((w.alloc (.cells #[.slice (A) n c, .int .i64 (p), .slice (A') n' c', .int .i64 (q), .slice (A2) n2 c2, .int .i64 (z)] 26)).alloc (.cells #[.slice none 0 0, .int .i64 0, .slice none 0 0, .int .i64 0, .slice none 0 0, .int .i64 0] 30)).alloc (.cells #[.slice none 0 0, .int .i64 0, .slice none 0 0, .int .i64 0, .slice none 0 0, .int .i64 0] 30))) := (by go_grown : Below w.heap.size w _)
  (try simp only [World.size_alloc, World.size_setCell, World.size_drew] at R0 O0)
  have s0 : (((w.alloc (.cells #[.slice (A) n c, .int .i64 (p), .slice (A') n' c', .int .i64 (q), .slice (A2) n2 c2, .int .i64 (z)] 26)).alloc (.cells #[.slice none 0 0, .int .i64 0, .slice none 0 0, .int .i64 0, .slice none 0 0, .int .i64 0] 30)).alloc (.cells #[.slice none 0 0, .int .i64 0, .slice none 0 0, .int .i64 0, .slice none 0 0, .int .i64 0] 30)).heap.size = w.heap.size + 3 := by simp
  go_enter Tryd.func14, Tryd.ntmps14
  go_wp2_with fail
  generalize ((w.alloc (.cells #[.slice (A) n c, .int .i64 (p), .slice (A') n' c', .int .i64 (q), .slice (A2) n2 c2, .int .i64 (z)] 26)).alloc (.cells #[.slice none 0 0, .int .i64 0, .slice none 0 0, .int .i64 0, .slice none 0 0, .int .i64 0] 30)).alloc (.cells #[.slice none 0 0, .int .i64 0, .slice none 0 0, .int .i64 0, .slice none 0 0, .int .i64 0] 30) = w0 at *
  refine (toDevice_any H1.out H2.out (by omega) (by omega) hn hn' hp hq).mono ?_
  rintro e w1 ⟨A3, n3, c3, A3', n3', c3', rfl, ⟨hc3, hc3'⟩, hb1, hx, hx', ha, _, _⟩
  have s1 := hb1.size
  have X1 := Lib.hid (X0.out.below hb1 (by omega))
  have R1 := Lib.hid (R0.out.below hb1 (by omega))
  have O1 := Lib.hid (O0.out.below hb1 (by omega))
  have G2 := Lib.hid (G1.out.below hb1 (by omega))
  have E1 := Lib.hid (below_step hb1 E0.out (by omega))
  have HX := Lib.hid hx
  have HX' := Lib.hid hx'
  have HA := Lib.hid ha
  clear hb1 hx hx' ha X0 R0 O0 G1 E0 H1 H2
  have x0 := (X1.out.2 0 _ rfl).1; have x1 := (X1.out.2 1 _ rfl).1; have x2 := (X1.out.2 2 _ rfl).1; have x3 := (X1.out.2 3 _ rfl).1; have x4 := (X1.out.2 4 _ rfl).1; have x5 := (X1.out.2 5 _ rfl).1
  have o0 := (O1.out.2 0 _ rfl).1; have o1 := (O1.out.2 1 _ rfl).1; have o2 := (O1.out.2 2 _ rfl).1; have o3 := (O1.out.2 3 _ rfl).1; have o4 := (O1.out.2 4 _ rfl).1; have o5 := (O1.out.2 5 _ rfl).1
  have f0 := (O1.out.2 0 _ rfl).2; have f1 := (O1.out.2 1 _ rfl).2; have f2 := (O1.out.2 2 _ rfl).2; have f3 := (O1.out.2 3 _ rfl).2; have f4 := (O1.out.2 4 _ rfl).2; have f5 := (O1.out.2 5 _ rfl).2
  go_wp2_with fail
  have s0' := R1.out.lt
  have O2 : Hid (Box ((((w1.setCell ⟨w.heap.size + 1 + 1, 0, none⟩ (.slice A3 n3 c3)).setCell ⟨w.heap.size + 1 + 1, 1, none⟩ (.int .i64 p)).setCell ⟨w.heap.size + 1 + 1, 2, none⟩ (.slice A3' n3' c3')).setCell ⟨w.heap.size + 1 + 1, 3, none⟩ (.int .i64 q)) (w.heap.size + 1 + 1) [.slice (A3) n3 c3, .int .i64 (p), .slice (A3') n3' c3', .int .i64 (q), .slice (none) 0 0, .int .i64 (0)]) := by
    show Box _ _ _
    have hx := (((O1.out.put (i := 0) (by simp) (.slice A3 n3 c3)).put (i := 1) (by simp) (.int .i64 p)).put (i := 2) (by simp) (.slice A3' n3' c3')).put (i := 3) (by simp) (.int .i64 q)
    simpa using hx
  have X2 : Hid (Box ((((w1.setCell ⟨w.heap.size + 1 + 1, 0, none⟩ (.slice A3 n3 c3)).setCell ⟨w.heap.size + 1 + 1, 1, none⟩ (.int .i64 p)).setCell ⟨w.heap.size + 1 + 1, 2, none⟩ (.slice A3' n3' c3')).setCell ⟨w.heap.size + 1 + 1, 3, none⟩ (.int .i64 q)) w.heap.size [.slice (A) n c, .int .i64 (p), .slice (A') n' c', .int .i64 (q), .slice (A2) n2 c2, .int .i64 (z)]) := (((X1.out.set_ (by omega) _).set_ (by omega) _).set_ (by omega) _).set_ (by omega) _
  have R2 : Hid (Box ((((w1.setCell ⟨w.heap.size + 1 + 1, 0, none⟩ (.slice A3 n3 c3)).setCell ⟨w.heap.size + 1 + 1, 1, none⟩ (.int .i64 p)).setCell ⟨w.heap.size + 1 + 1, 2, none⟩ (.slice A3' n3' c3')).setCell ⟨w.heap.size + 1 + 1, 3, none⟩ (.int .i64 q)) (w.heap.size + 1) [.slice none 0 0, .int .i64 0, .slice none 0 0, .int .i64 0, .slice none 0 0, .int .i64 0]) := (((R1.out.set_ (by omega) _).set_ (by omega) _).set_ (by omega) _).set_ (by omega) _
  have G3 : Hid (Ints ((((w1.setCell ⟨w.heap.size + 1 + 1, 0, none⟩ (.slice A3 n3 c3)).setCell ⟨w.heap.size + 1 + 1, 1, none⟩ (.int .i64 p)).setCell ⟨w.heap.size + 1 + 1, 2, none⟩ (.slice A3' n3' c3')).setCell ⟨w.heap.size + 1 + 1, 3, none⟩ (.int .i64 q)) M C A2 n2 R) := (((G2.out.set_ (by omega) _).set_ (by omega) _).set_ (by omega) _).set_ (by omega) _
  have D2 : Hid (Ints ((((w1.setCell ⟨w.heap.size + 1 + 1, 0, none⟩ (.slice A3 n3 c3)).setCell ⟨w.heap.size + 1 + 1, 1, none⟩ (.int .i64 p)).setCell ⟨w.heap.size + 1 + 1, 2, none⟩ (.slice A3' n3' c3')).setCell ⟨w.heap.size + 1 + 1, 3, none⟩ (.int .i64 q)) w0.heap.size w1.heap.size A3 n3 D) := (((HX.out.set_ (by omega) _).set_ (by omega) _).set_ (by omega) _).set_ (by omega) _
  have D2' : Hid (Ints ((((w1.setCell ⟨w.heap.size + 1 + 1, 0, none⟩ (.slice A3 n3 c3)).setCell ⟨w.heap.size + 1 + 1, 1, none⟩ (.int .i64 p)).setCell ⟨w.heap.size + 1 + 1, 2, none⟩ (.slice A3' n3' c3')).setCell ⟨w.heap.size + 1 + 1, 3, none⟩ (.int .i64 q)) w0.heap.size w1.heap.size A3' n3' S) := (((HX'.out.set_ (by omega) _).set_ (by omega) _).set_ (by omega) _).set_ (by omega) _
  have E2 : Hid (Below w.heap.size w ((((w1.setCell ⟨w.heap.size + 1 + 1, 0, none⟩ (.slice A3 n3 c3)).setCell ⟨w.heap.size + 1 + 1, 1, none⟩ (.int .i64 p)).setCell ⟨w.heap.size + 1 + 1, 2, none⟩ (.slice A3' n3' c3')).setCell ⟨w.heap.size + 1 + 1, 3, none⟩ (.int .i64 q))) := below_set (below_set (below_set (below_set E1.out (by omega) _) (by omega) _) (by omega) _) (by omega) _
  have s2 : ((((w1.setCell ⟨w.heap.size + 1 + 1, 0, none⟩ (.slice A3 n3 c3)).setCell ⟨w.heap.size + 1 + 1, 1, none⟩ (.int .i64 p)).setCell ⟨w.heap.size + 1 + 1, 2, none⟩ (.slice A3' n3' c3')).setCell ⟨w.heap.size + 1 + 1, 3, none⟩ (.int .i64 q)).heap.size = w1.heap.size := by simp only [World.size_setCell]
  generalize (((w1.setCell ⟨w.heap.size + 1 + 1, 0, none⟩ (.slice A3 n3 c3)).setCell ⟨w.heap.size + 1 + 1, 1, none⟩ (.int .i64 p)).setCell ⟨w.heap.size + 1 + 1, 2, none⟩ (.slice A3' n3' c3')).setCell ⟨w.heap.size + 1 + 1, 3, none⟩ (.int .i64 q) = w2 at *
  clear o0 o1 o2 o3 o4 o5 f0 f1 f2 f3 f4 f5 x0 x1 x2 x3 x4 x5 O1 X1 R1 G2 HX HX' E1
  refine (toIntS_b G3.out (by omega) hn2).mono ?_
  rintro e w3 ⟨A4, c4, rfl, hc4, hb3, hi3⟩
  have s3 := hb3.size
  have X3 := Lib.hid (X2.out.below hb3 (by omega))
  have R3 := Lib.hid (R2.out.below hb3 (by omega))
  have O3 := Lib.hid (O2.out.below hb3 (by omega))
  have D3 := Lib.hid (D2.out.below hb3 (by omega))
  have D3' := Lib.hid (D2'.out.below hb3 (by omega))
  have E3 := Lib.hid (below_step hb3 E2.out (by omega))
  have HI := Lib.hid hi3
  clear hb3 hi3 X2 R2 O2 D2 D2' E2 G3
  have x0 := (X3.out.2 0 _ rfl).1; have x1 := (X3.out.2 1 _ rfl).1; have x2 := (X3.out.2 2 _ rfl).1; have x3 := (X3.out.2 3 _ rfl).1; have x4 := (X3.out.2 4 _ rfl).1; have x5 := (X3.out.2 5 _ rfl).1
  have o0 := (O3.out.2 0 _ rfl).1; have o1 := (O3.out.2 1 _ rfl).1; have o2 := (O3.out.2 2 _ rfl).1; have o3 := (O3.out.2 3 _ rfl).1; have o4 := (O3.out.2 4 _ rfl).1; have o5 := (O3.out.2 5 _ rfl).1
  have f0 := (O3.out.2 0 _ rfl).2; have f1 := (O3.out.2 1 _ rfl).2; have f2 := (O3.out.2 2 _ rfl).2; have f3 := (O3.out.2 3 _ rfl).2; have f4 := (O3.out.2 4 _ rfl).2; have f5 := (O3.out.2 5 _ rfl).2
  have r0 := (R3.out.2 0 _ rfl).1; have r1 := (R3.out.2 1 _ rfl).1; have r2 := (R3.out.2 2 _ rfl).1; have r3 := (R3.out.2 3 _ rfl).1; have r4 := (R3.out.2 4 _ rfl).1; have r5 := (R3.out.2 5 _ rfl).1
  have g0 := (R3.out.2 0 _ rfl).2; have g1 := (R3.out.2 1 _ rfl).2; have g2 := (R3.out.2 2 _ rfl).2; have g3 := (R3.out.2 3 _ rfl).2; have g4 := (R3.out.2 4 _ rfl).2; have g5 := (R3.out.2 5 _ rfl).2
  go_wp2
  refine bodyPost_ret (v := .agg #[.slice (A3) n3 c3, .int .i64 (p), .slice (A3') n3' c3', .int .i64 (q), .slice (A4) n2 c4, .int .i64 (z)]) (by simp [results, Tryd.results14, go_sem, x0, x1, x2, x3, x4, x5, o0, o1, o2, o3, o4, o5, f0, f1, f2, f3, f4, f5, r0, r1, r2, r3, r4, r5, g0, g1, g2, g3, g4, g5]) rfl ?_
  refine ⟨_, _, _, _, _, _, _, _, _, rfl, ⟨hc3, hc3', hc4⟩, ?_, ⟨⟨?_, ?_, HA.out, hp, hq⟩, ?_, (Apart.of_le D3.out HI.out (by omega)).symm, (Apart.of_le D3'.out HI.out (by omega)).symm, hz⟩⟩
  · (repeat (with_reducible refine below_set ?_ (by omega) _))
    exact E3.out
  · simp only [World.size_setCell]
    refine Ints.more (lo := w0.heap.size) (hi := w1.heap.size) ?_ (by omega) (by omega)
    (repeat (with_reducible refine Ints.set_ ?_ (by omega) _))
    exact D3.out
  · simp only [World.size_setCell]
    refine Ints.more (lo := w0.heap.size) (hi := w1.heap.size) ?_ (by omega) (by omega)
    (repeat (with_reducible refine Ints.set_ ?_ (by omega) _))
    exact D3'.out
  · simp only [World.size_setCell]
    refine Ints.more (lo := w2.heap.size) (hi := w3.heap.size) ?_ (by omega) (by omega)
    (repeat (with_reducible refine Ints.set_ ?_ (by omega) _))
    exact HI.out

set_option maxHeartbeats 2000000 in
theorem eqWriter_same {A A' A2 X X' X2 : Option Addr} {n c n' c' n2 c2 k d k' d' k2 d2 : Nat} {D S R : List Int} {p q z : Int} {w : World} {L B L' B' M C U V U' V' Y Z : Nat}
    (h : Ints w L B A n D) (h' : Ints w L' B' A' n' S) (g : Ints w M C A2 n2 R) (i : Ints w U V X k D) (i' : Ints w U' V' X' k' S) (j : Ints w Y Z X2 k2 R)
    (hB : B ≤ w.heap.size) (hB' : B' ≤ w.heap.size) (hC : C ≤ w.heap.size) (hV : V ≤ w.heap.size) (hV' : V' ≤ w.heap.size) (hZ : Z ≤ w.heap.size) :
    Calls Tryd.prog 17 #[.agg #[.slice (A) n c, .int .i64 (p), .slice (A') n' c', .int .i64 (q), .slice (A2) n2 c2, .int .i64 (z)], .agg #[.slice (X) k d, .int .i64 (p), .slice (X') k' d', .int .i64 (q), .slice (X2) k2 d2, .int .i64 (z)]] w (BoolB true w) := by
  have H1 := Lib.hid ((h.alloc hB (.cells #[.slice (A) n c, .int .i64 (p), .slice (A') n' c', .int .i64 (q), .slice (A2) n2 c2, .int .i64 (z)] 30)).alloc (by first | omega | (simp; omega) | (simp; done)) (.cells #[.slice (X) k d, .int .i64 (p), .slice (X') k' d', .int .i64 (q), .slice (X2) k2 d2, .int .i64 (z)] 30))
  have H2 := Lib.hid ((h'.alloc hB' (.cells #[.slice (A) n c, .int .i64 (p), .slice (A') n' c', .int .i64 (q), .slice (A2) n2 c2, .int .i64 (z)] 30)).alloc (by first | omega | (simp; omega) | (simp; done)) (.cells #[.slice (X) k d, .int .i64 (p), .slice (X') k' d', .int .i64 (q), .slice (X2) k2 d2, .int .i64 (z)] 30))
  have H3 := Lib.hid ((g.alloc hC (.cells #[.slice (A) n c, .int .i64 (p), .slice (A') n' c', .int .i64 (q), .slice (A2) n2 c2, .int .i64 (z)] 30)).alloc (by first | omega | (simp; omega) | (simp; done)) (.cells #[.slice (X) k d, .int .i64 (p), .slice (X') k' d', .int .i64 (q), .slice (X2) k2 d2, .int .i64 (z)] 30))
  have I1 := Lib.hid ((i.alloc hV (.cells #[.slice (A) n c, .int .i64 (p), .slice (A') n' c', .int .i64 (q), .slice (A2) n2 c2, .int .i64 (z)] 30)).alloc (by first | omega | (simp; omega) | (simp; done)) (.cells #[.slice (X) k d, .int .i64 (p), .slice (X') k' d', .int .i64 (q), .slice (X2) k2 d2, .int .i64 (z)] 30))
  have I2 := Lib.hid ((i'.alloc hV' (.cells #[.slice (A) n c, .int .i64 (p), .slice (A') n' c', .int .i64 (q), .slice (A2) n2 c2, .int .i64 (z)] 30)).alloc (by first | omega | (simp; omega) | (simp; done)) (.cells #[.slice (X) k d, .int .i64 (p), .slice (X') k' d', .int .i64 (q), .slice (X2) k2 d2, .int .i64 (z)] 30))
  have I3 := Lib.hid ((j.alloc hZ (.cells #[.slice (A) n c, .int .i64 (p), .slice (A') n' c', .int .i64 (q), .slice (A2) n2 c2, .int .i64 (z)] 30)).alloc (by first | omega | (simp; omega) | (simp; done)) (.cells #[.slice (X) k d, .int .i64 (p), .slice (X') k' d', .int .i64 (q), .slice (X2) k2 d2, .int .i64 (z)] 30))
  have X0 := Lib.hid ((Box.new w 30 [.slice (A) n c, .int .i64 (p), .slice (A') n' c', .int .i64 (q), .slice (A2) n2 c2, .int .i64 (z)]).alloc (.cells #[.slice (X) k d, .int .i64 (p), .slice (X') k' d', .int .i64 (q), .slice (X2) k2 d2, .int .i64 (z)] 30))
  have Y0 := Lib.hid (Box.new (w.alloc (.cells #[.slice (A) n c, .int .i64 (p), .slice (A') n' c', .int .i64 (q), .slice (A2) n2 c2, .int .i64 (z)] 30)) 30 [.slice (X) k d, .int .i64 (p), .slice (X') k' d', .int .i64 (q), .slice (X2) k2 d2, .int .i64 (z)])
  (try simp only [World.size_alloc, World.size_setCell, World.size_drew] at Y0)
  clear h h' g i i' j
  go_enter Tryd.func17, Tryd.ntmps17
  go_wp2_with fail
  refine (eqDevice_same H1.out H2.out I1.out I2.out (by first | omega | (simp; omega) | (simp; done)) (by first | omega | (simp; omega) | (simp; done)) (by first | omega | (simp; omega) | (simp; done)) (by first | omega | (simp; omega) | (simp; done))).mono ?_
  rintro e w1 ⟨rfl, hb⟩
  (try simp only [World.size_alloc, World.size_setCell, World.size_drew] at hb)
  have X1 := Lib.hid (X0.out.below hb (by omega))
  have Y1 := Lib.hid (Y0.out.below hb (by omega))
  have J1 := Lib.hid (H3.out.below hb (by first | omega | (simp; omega) | (simp; done)))
  have J2 := Lib.hid (I3.out.below hb (by first | omega | (simp; omega) | (simp; done)))
  have E1 : Hid (Below w.heap.size w w1) := below_step hb (by go_grown) (by omega)
  have s1 := hb.size
  (try simp only [World.size_alloc, World.size_setCell, World.size_drew] at s1)
  clear hb X0 Y0 H1 H2 H3 I1 I2 I3
  have x0 := (X1.out.2 0 _ rfl).1; have x1 := (X1.out.2 1 _ rfl).1; have x2 := (X1.out.2 2 _ rfl).1; have x3 := (X1.out.2 3 _ rfl).1; have x4 := (X1.out.2 4 _ rfl).1; have x5 := (X1.out.2 5 _ rfl).1
  have y0 := (Y1.out.2 0 _ rfl).1; have y1 := (Y1.out.2 1 _ rfl).1; have y2 := (Y1.out.2 2 _ rfl).1; have y3 := (Y1.out.2 3 _ rfl).1; have y4 := (Y1.out.2 4 _ rfl).1; have y5 := (Y1.out.2 5 _ rfl).1
  go_wp2_with fail
  refine (eqIntS_same J1.out J2.out).mono ?_
  rintro e w2 ⟨rfl, hb⟩
  have X2 := Lib.hid (X1.out.below hb (by omega))
  have Y2 := Lib.hid (Y1.out.below hb (by omega))
  have HB := Lib.hid hb
  clear hb
  have x0 := (X2.out.2 0 _ rfl).1; have x1 := (X2.out.2 1 _ rfl).1; have x2 := (X2.out.2 2 _ rfl).1; have x3 := (X2.out.2 3 _ rfl).1; have x4 := (X2.out.2 4 _ rfl).1; have x5 := (X2.out.2 5 _ rfl).1
  have y0 := (Y2.out.2 0 _ rfl).1; have y1 := (Y2.out.2 1 _ rfl).1; have y2 := (Y2.out.2 2 _ rfl).1; have y3 := (Y2.out.2 3 _ rfl).1; have y4 := (Y2.out.2 4 _ rfl).1; have y5 := (Y2.out.2 5 _ rfl).1
  go_wp2
  go_ret
  exact ⟨rfl, below_step HB.out E1.out (by omega)⟩

set_option maxHeartbeats 1000000 in
theorem markWriter_any {A A' A2 : Option Addr} {n c n' c' n2 c2 : Nat} {D S R : List Int} {p q z k : Int} {w : World} {L L' B B' M C : Nat} (h : Ints w L B A n D) (h' : Ints w L' B' A' n' S) (g : Ints w M C A2 n2 R) (hap : Apart A n A' n') (hap1 : Apart A2 n2 A n) (hap2 : Apart A2 n2 A' n') (hB : B ≤ w.heap.size) (hB' : B' ≤ w.heap.size) (hC : C ≤ w.heap.size)
    (hk : 0 ≤ k) (hk2 : k ≤ 10000000) (hn : n ≤ 1048576) (hn' : n' ≤ 1048576) (hn2 : n2 ≤ 1048576) :
    Calls Tryd.prog 19 #[.agg #[.slice (A) n c, .int .i64 (p), .slice (A') n' c', .int .i64 (q), .slice (A2) n2 c2, .int .i64 (z)], .int .i64 k] w (MarkRPost A n L B A' n' L' B' A2 n2 M C k w) := by
  have H1 := Lib.hid (h.alloc hB (.cells #[.slice (A) n c, .int .i64 (p), .slice (A') n' c', .int .i64 (q), .slice (A2) n2 c2, .int .i64 (z)] 30))
  have H2 := Lib.hid (h'.alloc hB' (.cells #[.slice (A) n c, .int .i64 (p), .slice (A') n' c', .int .i64 (q), .slice (A2) n2 c2, .int .i64 (z)] 30))
  have H3 := Lib.hid (g.alloc hC (.cells #[.slice (A) n c, .int .i64 (p), .slice (A') n' c', .int .i64 (q), .slice (A2) n2 c2, .int .i64 (z)] 30))
  have X0 := Lib.hid (Box.new w 30 [.slice (A) n c, .int .i64 (p), .slice (A') n' c', .int .i64 (q), .slice (A2) n2 c2, .int .i64 (z)])
  go_enter Tryd.func19, Tryd.ntmps19
  go_wp2_with fail
  refine (markDevice_any H1.out H2.out hap (by first | omega | (simp; omega) | (simp; done)) (by first | omega | (simp; omega) | (simp; done)) hk (by omega) hn hn').mono ?_
  rintro e w1 ⟨rfl, hm1, hi1, hi1'⟩
  have HM1 := Lib.hid hm1
  have HI1 := Lib.hid hi1
  have HI1' := Lib.hid hi1'
  have X1 := Lib.hid (X0.out.markD hm1 H1.out H2.out (.inr (by omega)) (.inr (by omega)))
  have I2 := Lib.hid (H3.out.markD hm1 (by first | omega | (simp; omega) | (simp; done)) hap1.symm hap2.symm)
  have s1 := Lib.hid hm1.size
  clear hm1 hi1 hi1'
  have x0 := (X1.out.2 0 _ rfl).1; have x1 := (X1.out.2 1 _ rfl).1; have x2 := (X1.out.2 2 _ rfl).1; have x3 := (X1.out.2 3 _ rfl).1; have x4 := (X1.out.2 4 _ rfl).1; have x5 := (X1.out.2 5 _ rfl).1
  go_wp2_with fail
  refine (markIntS_any I2.out (by omega) (by omega) hn2).mono ?_
  rintro e w2 ⟨rfl, hm2, hi2⟩
  have HM2 := Lib.hid hm2
  have HI2 := Lib.hid hi2
  have s2 := Lib.hid hm2.size
  clear hm2 hi2
  go_wp2
  go_ret
  have e1 := s1.out
  have e2 := s2.out
  simp only [World.size_alloc] at e1
  refine ⟨rfl, ⟨HM2.out.1.trans HM1.out.1, HM2.out.2.1.trans HM1.out.2.1, HM2.out.2.2.1.trans HM1.out.2.2.1, by omega, fun b hb hx hy hz => ?_, fun b o hb hx hy hz => ?_⟩, HI1.out.mark HM2.out hap1, HI1'.out.mark HM2.out hap2, HI2.out⟩
  · exact ((HM2.out.2.2.2.2.1 b hz).trans (HM1.out.2.2.2.2.1 b (by simp; omega) hx hy)).trans (Below.heap_alloc w _ b hb)
  · exact ((SameAt.of_block (Below.heap_alloc w _ b hb)).trans (HM1.out.2.2.2.2.2 b o (by simp; omega) hx hy)).trans (HM2.out.2.2.2.2.2 b o hz)

set_option maxHeartbeats 1000000 in
theorem heldWriter_any {A A' A2 : Option Addr} {n c n' c' n2 c2 : Nat} {p q z k : Int} {w : World} {L L' B B' M C : Nat} (h : Ints w L B A n (seqI k n)) (h' : Ints w L' B' A' n' (seqI (k + (n : Int)) n')) (g : Ints w M C A2 n2 (seqI (k + (n : Int) + (n' : Int)) n2)) (hB : B ≤ w.heap.size) (hB' : B' ≤ w.heap.size) (hC : C ≤ w.heap.size)
    (hk : 0 ≤ k) (hk2 : k ≤ 10000000) (hn : n ≤ 1048576) (hn' : n' ≤ 1048576) (hn2 : n2 ≤ 1048576) :
    Calls Tryd.prog 21 #[.agg #[.slice (A) n c, .int .i64 (p), .slice (A') n' c', .int .i64 (q), .slice (A2) n2 c2, .int .i64 (z)], .int .i64 k] w fun e w' => e = .returned (.int .i64 (k + (n : Int) + (n' : Int) + (n2 : Int))) ∧ Below w.heap.size w w' := by
  have H1 := Lib.hid (h.alloc hB (.cells #[.slice (A) n c, .int .i64 (p), .slice (A') n' c', .int .i64 (q), .slice (A2) n2 c2, .int .i64 (z)] 30))
  have H2 := Lib.hid (h'.alloc hB' (.cells #[.slice (A) n c, .int .i64 (p), .slice (A') n' c', .int .i64 (q), .slice (A2) n2 c2, .int .i64 (z)] 30))
  have H3 := Lib.hid (g.alloc hC (.cells #[.slice (A) n c, .int .i64 (p), .slice (A') n' c', .int .i64 (q), .slice (A2) n2 c2, .int .i64 (z)] 30))
  have X0 := Lib.hid (Box.new w 30 [.slice (A) n c, .int .i64 (p), .slice (A') n' c', .int .i64 (q), .slice (A2) n2 c2, .int .i64 (z)])
  go_enter Tryd.func21, Tryd.ntmps21
  go_wp2_with fail
  refine (heldDevice_any H1.out H2.out (by first | omega | (simp; omega) | (simp; done)) (by first | omega | (simp; omega) | (simp; done)) hk (by omega) hn hn').mono ?_
  rintro e w1 ⟨rfl, hb⟩
  (try simp only [World.size_alloc, World.size_setCell, World.size_drew] at hb)
  have X1 := Lib.hid (X0.out.below hb (by omega))
  have I3 := Lib.hid (H3.out.below hb (by first | omega | (simp; omega) | (simp; done)))
  have HB := Lib.hid hb
  clear hb
  have x0 := (X1.out.2 0 _ rfl).1; have x1 := (X1.out.2 1 _ rfl).1; have x2 := (X1.out.2 2 _ rfl).1; have x3 := (X1.out.2 3 _ rfl).1; have x4 := (X1.out.2 4 _ rfl).1; have x5 := (X1.out.2 5 _ rfl).1
  go_wp2_with fail
  refine (heldIntS_any I3.out (by omega) (by omega) hn2).mono ?_
  rintro e w2 ⟨rfl, rfl⟩
  go_wp2
  go_ret
  exact ⟨rfl, below_step HB.out (by go_grown) (by omega)⟩
end Go.Proofs.YtdiebkaedjlckaaDoor
