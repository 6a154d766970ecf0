/- A file by the exact laws' own helpers: its size, its copy, its comparison, its marks; a file among a law's arguments. -/
import Derived.Test.YtphkkalkajleiaaDoorL6
namespace Go.Proofs.YtphkkalkajleiaaDoor
open Go.ChangeShapes Go.WideShapes Go.ChangeAt Go.RowKit
set_option maxRecDepth 10000
set_option linter.unusedSimpArgs false
set_option linter.unusedVariables false

set_option maxHeartbeats 1000000 in
theorem szBoth_any {A A' A2 A3 : Option Addr} {n c n' c' n2 c2 n3 c3 : Nat} {p q z left : Int} {w : World} (hn : n ≤ 9223372036854775807) (hn' : n' ≤ 9223372036854775807) (hn2 : n2 ≤ 9223372036854775807) (hn3 : n3 ≤ 9223372036854775807) (h0 : 0 ≤ left) (h1 : left ≤ 1048576) :
    Calls Tryd.prog 31 #[.agg #[.slice (A) n c, .int .i64 (p), .slice (A') n' c', .int .i64 (q), .slice (A2) n2 c2, .slice (A3) n3 c3, .int .i64 (z)], .int .i64 left] w (SzPost left (n + n' + n2 + n3) w) := by
  have X0 := Lib.hid (Box.new w 48 [.slice (A) n c, .int .i64 (p), .slice (A') n' c', .int .i64 (q), .slice (A2) n2 c2, .slice (A3) n3 c3, .int .i64 (z)])
  go_enter Tryd.func31, Tryd.ntmps31
  go_wp2_with fail
  refine (szDevice_any hn hn' (by omega) (by omega)).mono ?_
  rintro e w1 ⟨r, rfl, hr, hb⟩
  (try simp only [World.size_alloc, World.size_setCell, World.size_drew] at hb)
  have X1 := Lib.hid (X0.out.below hb (by omega))
  have HB := Lib.hid hb
  clear hb X0
  have x0 := (X1.out.2 0 _ rfl).1; have x1 := (X1.out.2 1 _ rfl).1; have x2 := (X1.out.2 2 _ rfl).1; have x3 := (X1.out.2 3 _ rfl).1; have x4 := (X1.out.2 4 _ rfl).1; have x5 := (X1.out.2 5 _ rfl).1; have x6 := (X1.out.2 6 _ rfl).1
  go_wp2_with (go_at_call 48; refine (szIntS_any (by omega) (by omega) (by omega)).mono ?_; rintro e w' ⟨r1, rfl, hr1, rfl⟩)
  all_goals
    go_ret
    exact ⟨_, rfl, by omega, below_step HB.out (by go_grown) (by omega)⟩

theorem array7 {cs : Array Value} (h : cs.size = 7) : ∃ c0 c1 c2 c3 c4 c5 c6, cs = #[c0, c1, c2, c3, c4, c5, c6] := by
  obtain ⟨l⟩ := cs
  have hl : l.length = 7 := h
  match l, hl with
  | [c0, c1, c2, c3, c4, c5, c6], _ => exact ⟨c0, c1, c2, c3, c4, c5, c6, rfl⟩
/-- A file in new memory, its four slices apart. -/
def BotIn (w : World) (lo hi : Nat) (A : Option Addr) (n : Nat) (A' : Option Addr) (n' : Nat) (A2 : Option Addr) (n2 : Nat) (A3 : Option Addr) (n3 : Nat) (D : List Int) (p : Int) (S : List Int) (q : Int) (R Q : List Int) (z : Int) : Prop :=
  RdrIn w lo hi A n A' n' A2 n2 D p S q R z ∧ Ints w lo hi A3 n3 Q ∧ Apart A3 n3 A n ∧ Apart A3 n3 A' n' ∧ Apart A3 n3 A2 n2
def BotPost (D : List Int) (p : Int) (S : List Int) (q : Int) (R Q : List Int) (z : Int) (w : World) (e : Ending) (w' : World) : Prop :=
  ∃ A n c A' n' c' A2 n2 c2 A3 n3 c3, e = .returned (.agg #[.slice (A) n c, .int .i64 (p), .slice (A') n' c', .int .i64 (q), .slice (A2) n2 c2, .slice (A3) n3 c3, .int .i64 (z)]) ∧ (n ≤ c ∧ n' ≤ c' ∧ n2 ≤ c2 ∧ n3 ≤ c3) ∧ Below w.heap.size w w' ∧ BotIn w' w.heap.size w'.heap.size A n A' n' A2 n2 A3 n3 D p S q R Q z
theorem arg_both {H : Type} {enc : TypeId × Value → H} {W : World} {base : Nat} {v : Value} {d : DataW H} {p0 : List MemPlace} (hval : Value.okWide Tryd.prog W .any base 48 v) (h : DataW.Trod enc Tryd.prog W 0 (fun _ => true) true 48 v d p0)
    (hlt : ∀ p ∈ p0, p.block < W.heap.size) (hfz : ∀ b off, MemPlace.cell b off ∈ p0 → W.frozen? ⟨b, off, none⟩ = false) :
    ∃ A n c p A' n' c' q A2 n2 c2 A3 n3 c3 z D S R Q, v = .agg #[.slice (A) n c, .int .i64 (p), .slice (A') n' c', .int .i64 (q), .slice (A2) n2 c2, .slice (A3) n3 c3, .int .i64 (z)] ∧ Ints W 0 W.heap.size A n D ∧ Ints W 0 W.heap.size A' n' S ∧ Ints W 0 W.heap.size A2 n2 R ∧ Ints W 0 W.heap.size A3 n3 Q ∧ okInt p ∧ okInt q ∧ okInt z := by
  obtain ⟨cs, rfl, hsz⟩ := okWide_struct Tryd.underlying48 hval
  have hc7 : Tryd.prog.cellsOf 48 = 7 := by kernel_rfl
  have hc4 : Tryd.prog.cellsOf 24 = 4 := by kernel_rfl
  have hcl : Tryd.prog.cellsOf 22 = 1 := by kernel_rfl
  obtain ⟨c0, c1, c2, c3, c4, c5, c6, rfl⟩ : ∃ c0 c1 c2 c3 c4 c5 c6, cs = #[c0, c1, c2, c3, c4, c5, c6] := by
    exact array7 (hsz.trans hc7)
  obtain ⟨fuel, hf⟩ := h
  obtain ⟨y0, y1, y2, y3, n, hx, _, h0, h1, h2, h3⟩ := Go.Joins.trod_struct4 Tryd.underlying48 hf
  simp only [Value.cells, hc4, hcl, cellsInt, List.drop_succ_cons, List.drop_zero, List.take_succ_cons, List.take_zero] at h0 h1 h2 h3
  obtain ⟨x0, x1, x2, x3, m, hx', _, k0, k1, k2, k3⟩ := Go.Joins.trod_struct4 Tryd.underlying24 h0
  have e0 : p0 = y0.2 ++ (y1.2 ++ (y2.2 ++ y3.2)) := (Prod.mk.inj hx).2
  have e1 : y0.2 = x0.2 ++ (x1.2 ++ (x2.2 ++ x3.2)) := by rw [hx']
  subst e0
  obtain ⟨A, na, c, D, rfl, _, _, hD⟩ := arg_ints (v := c0) Tryd.underlying22 Tryd.underlying3 cellsInt (by simpa [hcl] using k0) (fun p hp => hlt p (by simp [e1, hp])) (fun b o hp => hfz b o (by simp [e1, hp]))
  obtain ⟨p, rfl, hp⟩ := arg_int (v := c1) Tryd.underlying3 (by simpa [cellsInt] using k1)
  obtain ⟨A', n', c', S, rfl, _, _, hS⟩ := arg_ints (v := c2) Tryd.underlying22 Tryd.underlying3 cellsInt (by simpa [hcl] using k2) (fun p hp => hlt p (by simp [e1, hp])) (fun b o hp => hfz b o (by simp [e1, hp]))
  obtain ⟨q, rfl, hq⟩ := arg_int (v := c3) Tryd.underlying3 (by simpa [cellsInt] using k3)
  obtain ⟨A2, n2, c2, R, rfl, _, _, hR⟩ := arg_ints (v := c4) Tryd.underlying22 Tryd.underlying3 cellsInt h1 (fun p hp => hlt p (by simp [hp])) (fun b o hp => hfz b o (by simp [hp]))
  obtain ⟨A3, n3, c3, Q, rfl, _, _, hQ⟩ := arg_ints (v := c5) Tryd.underlying22 Tryd.underlying3 cellsInt h2 (fun p hp => hlt p (by simp [hp])) (fun b o hp => hfz b o (by simp [hp]))
  obtain ⟨z, rfl, hz⟩ := arg_int (v := c6) Tryd.underlying3 h3
  exact ⟨A, na, c, p, A', n', c', q, A2, n2, c2, A3, n3, c3, z, D, S, R, Q, rfl, hD, hS, hR, hQ, hp, hq, hz⟩

set_option maxHeartbeats 4000000 in
theorem toBoth_any {A A' A2 A3 : Option Addr} {n c n' c' n2 c2 n3 c3 : Nat} {D S R Q : List Int} {p q z : Int} {w : World} {L L' B B' M C U V : Nat} (h : Ints w L B A n D) (h' : Ints w L' B' A' n' S) (g : Ints w M C A2 n2 R) (j : Ints w U V A3 n3 Q) (hB : B ≤ w.heap.size) (hB' : B' ≤ w.heap.size) (hC : C ≤ w.heap.size) (hV : V ≤ w.heap.size)
    (hn : n ≤ 1048576) (hn' : n' ≤ 1048576) (hn2 : n2 ≤ 1048576) (hn3 : n3 ≤ 1048576) (hp : okInt p) (hq : okInt q) (hz : okInt z) :
    Calls Tryd.prog 33 #[.agg #[.slice (A) n c, .int .i64 (p), .slice (A') n' c', .int .i64 (q), .slice (A2) n2 c2, .slice (A3) n3 c3, .int .i64 (z)]] w (BotPost D p S q R Q z w) := by
  have H1 : Hid (Ints (((w.alloc (.cells #[.slice (A) n c, .int .i64 (p), .slice (A') n' c', .int .i64 (q), .slice (A2) n2 c2, .slice (A3) n3 c3, .int .i64 (z)] 48)).alloc (.cells #[.slice none 0 0, .int .i64 0, .slice none 0 0, .int .i64 0, .slice none 0 0, .slice none 0 0, .int .i64 0] 51)).alloc (.cells #[.slice none 0 0, .int .i64 0, .slice none 0 0, .int .i64 0, .slice none 0 0, .slice none 0 0, .int .i64 0] 51)) L B A n D) := ((h.alloc hB _).alloc (by first | omega | (simp; omega) | (simp; done)) _).alloc (by first | omega | (simp; omega) | (simp; done)) _
  have H2 : Hid (Ints (((w.alloc (.cells #[.slice (A) n c, .int .i64 (p), .slice (A') n' c', .int .i64 (q), .slice (A2) n2 c2, .slice (A3) n3 c3, .int .i64 (z)] 48)).alloc (.cells #[.slice none 0 0, .int .i64 0, .slice none 0 0, .int .i64 0, .slice none 0 0, .slice none 0 0, .int .i64 0] 51)).alloc (.cells #[.slice none 0 0, .int .i64 0, .slice none 0 0, .int .i64 0, .slice none 0 0, .slice none 0 0, .int .i64 0] 51)) L' B' A' n' S) := ((h'.alloc hB' _).alloc (by first | omega | (simp; omega) | (simp; done)) _).alloc (by first | omega | (simp; omega) | (simp; done)) _
  have G1 : Hid (Ints (((w.alloc (.cells #[.slice (A) n c, .int .i64 (p), .slice (A') n' c', .int .i64 (q), .slice (A2) n2 c2, .slice (A3) n3 c3, .int .i64 (z)] 48)).alloc (.cells #[.slice none 0 0, .int .i64 0, .slice none 0 0, .int .i64 0, .slice none 0 0, .slice none 0 0, .int .i64 0] 51)).alloc (.cells #[.slice none 0 0, .int .i64 0, .slice none 0 0, .int .i64 0, .slice none 0 0, .slice none 0 0, .int .i64 0] 51)) M C A2 n2 R) := ((g.alloc hC _).alloc (by first | omega | (simp; omega) | (simp; done)) _).alloc (by first | omega | (simp; omega) | (simp; done)) _
  have J1 : Hid (Ints (((w.alloc (.cells #[.slice (A) n c, .int .i64 (p), .slice (A') n' c', .int .i64 (q), .slice (A2) n2 c2, .slice (A3) n3 c3, .int .i64 (z)] 48)).alloc (.cells #[.slice none 0 0, .int .i64 0, .slice none 0 0, .int .i64 0, .slice none 0 0, .slice none 0 0, .int .i64 0] 51)).alloc (.cells #[.slice none 0 0, .int .i64 0, .slice none 0 0, .int .i64 0, .slice none 0 0, .slice none 0 0, .int .i64 0] 51)) U V A3 n3 Q) := ((j.alloc hV _).alloc (by first | omega | (simp; omega) | (simp; done)) _).alloc (by first | omega | (simp; omega) | (simp; done)) _
  have X0 : Hid (Box (((w.alloc (.cells #[.slice (A) n c, .int .i64 (p), .slice (A') n' c', .int .i64 (q), .slice (A2) n2 c2, .slice (A3) n3 c3, .int .i64 (z)] 48)).alloc (.cells #[.slice none 0 0, .int .i64 0, .slice none 0 0, .int .i64 0, .slice none 0 0, .slice none 0 0, .int .i64 0] 51)).alloc (.cells #[.slice none 0 0, .int .i64 0, .slice none 0 0, .int .i64 0, .slice none 0 0, .slice none 0 0, .int .i64 0] 51)) w.heap.size [.slice (A) n c, .int .i64 (p), .slice (A') n' c', .int .i64 (q), .slice (A2) n2 c2, .slice (A3) n3 c3, .int .i64 (z)]) := ((Box.new w 48 [.slice (A) n c, .int .i64 (p), .slice (A') n' c', .int .i64 (q), .slice (A2) n2 c2, .slice (A3) n3 c3, .int .i64 (z)]).alloc _).alloc _
  have R0 : Hid (Box (((w.alloc (.cells #[.slice (A) n c, .int .i64 (p), .slice (A') n' c', .int .i64 (q), .slice (A2) n2 c2, .slice (A3) n3 c3, .int .i64 (z)] 48)).alloc (.cells #[.slice none 0 0, .int .i64 0, .slice none 0 0, .int .i64 0, .slice none 0 0, .slice none 0 0, .int .i64 0] 51)).alloc (.cells #[.slice none 0 0, .int .i64 0, .slice none 0 0, .int .i64 0, .slice none 0 0, .slice none 0 0, .int .i64 0] 51)) (w.heap.size + 1) [.slice none 0 0, .int .i64 0, .slice none 0 0, .int .i64 0, .slice none 0 0, .slice none 0 0, .int .i64 0]) := by
    have hx := (Box.new (w.alloc (.cells #[.slice (A) n c, .int .i64 (p), .slice (A') n' c', .int .i64 (q), .slice (A2) n2 c2, .slice (A3) n3 c3, .int .i64 (z)] 48)) 51 [.slice none 0 0, .int .i64 0, .slice none 0 0, .int .i64 0, .slice none 0 0, .slice none 0 0, .int .i64 0]).alloc (.cells #[.slice none 0 0, .int .i64 0, .slice none 0 0, .int .i64 0, .slice none 0 0, .slice none 0 0, .int .i64 0] 51)
    rw [World.size_alloc] at hx
    exact hx
  have O0 : Hid (Box (((w.alloc (.cells #[.slice (A) n c, .int .i64 (p), .slice (A') n' c', .int .i64 (q), .slice (A2) n2 c2, .slice (A3) n3 c3, .int .i64 (z)] 48)).alloc (.cells #[.slice none 0 0, .int .i64 0, .slice none 0 0, .int .i64 0, .slice none 0 0, .slice none 0 0, .int .i64 0] 51)).alloc (.cells #[.slice none 0 0, .int .i64 0, .slice none 0 0, .int .i64 0, .slice none 0 0, .slice none 0 0, .int .i64 0] 51)) (w.heap.size + 1 + 1) [.slice none 0 0, .int .i64 0, .slice none 0 0, .int .i64 0, .slice none 0 0, .slice none 0 0, .int .i64 0]) := by
    have hx := Box.new ((w.alloc (.cells #[.slice (A) n c, .int .i64 (p), .slice (A') n' c', .int .i64 (q), .slice (A2) n2 c2, .slice (A3) n3 c3, .int .i64 (z)] 48)).alloc (.cells #[.slice none 0 0, .int .i64 0, .slice none 0 0, .int .i64 0, .slice none 0 0, .slice none 0 0, .int .i64 0] 51)) 51 [.slice none 0 0, .int .i64 0, .slice none 0 0, .int .i64 0, .slice none 0 0, .slice none 0 0, .int .i64 0]
    rw [World.size_alloc, World.size_alloc] at hx
    exact hx
  have E0 : Hid (Below w.heap.size w (((w.alloc (.cells #[.slice (A) n c, .int .i64 (p), .slice (A') n' c', .int .i64 (q), .slice (A2) n2 c2, .slice (A3) n3 c3, .int .i64 (z)] 48)).alloc (.cells #[.slice none 0 0, .int .i64 0, .slice none 0 0, .int .i64 0, .slice none 0 0, .slice none 0 0, .int .i64 0] 51)).alloc (.cells #[.slice none 0 0, .int .i64 0, .slice none 0 0, .int .i64 0, .slice none 0 0, .slice none 0 0, .int .i64 0] 51))) := (by go_grown : Below w.heap.size w _)
  have s0 : ((((w.alloc (.cells #[.slice (A) n c, .int .i64 (p), .slice (A') n' c', .int .i64 (q), .slice (A2) n2 c2, .slice (A3) n3 c3, .int .i64 (z)] 48)).alloc (.cells #[.slice none 0 0, .int .i64 0, .slice none 0 0, .int .i64 0, .slice none 0 0, .slice none 0 0, .int .i64 0] 51)).alloc (.cells #[.slice none 0 0, .int .i64 0, .slice none 0 0, .int .i64 0, .slice none 0 0, .slice none 0 0, .int .i64 0] 51))).heap.size = w.heap.size + 3 := by simp
  clear h h' g j
  go_enter Tryd.func33, Tryd.ntmps33
  go_wp2_with fail
  generalize (((w.alloc (.cells #[.slice (A) n c, .int .i64 (p), .slice (A') n' c', .int .i64 (q), .slice (A2) n2 c2, .slice (A3) n3 c3, .int .i64 (z)] 48)).alloc (.cells #[.slice none 0 0, .int .i64 0, .slice none 0 0, .int .i64 0, .slice none 0 0, .slice none 0 0, .int .i64 0] 51)).alloc (.cells #[.slice none 0 0, .int .i64 0, .slice none 0 0, .int .i64 0, .slice none 0 0, .slice none 0 0, .int .i64 0] 51)) = w0 at *
  refine (toDevice_any H1.out H2.out (by omega) (by omega) hn hn' hp hq).mono ?_
  rintro e w1 ⟨X, n4, k, X', n4', k', rfl, ⟨hk, hk'⟩, hb1, hx, hx', ha, _, _⟩
  have s1 := hb1.size
  have X1 := Lib.hid (X0.out.below hb1 (by omega))
  have R1 := Lib.hid (R0.out.below hb1 (by omega))
  have O1 := Lib.hid (O0.out.below hb1 (by omega))
  have G2 := Lib.hid (G1.out.below hb1 (by omega))
  have J2 := Lib.hid (J1.out.below hb1 (by omega))
  have E1 := Lib.hid (below_step hb1 E0.out (by omega))
  have HX := Lib.hid hx
  have HX' := Lib.hid hx'
  have HA := Lib.hid ha
  clear hb1 hx hx' ha X0 R0 O0 G1 J1 E0 H1 H2
  have x0 := (X1.out.2 0 _ rfl).1; have x1 := (X1.out.2 1 _ rfl).1; have x2 := (X1.out.2 2 _ rfl).1; have x3 := (X1.out.2 3 _ rfl).1; have x4 := (X1.out.2 4 _ rfl).1; have x5 := (X1.out.2 5 _ rfl).1; have x6 := (X1.out.2 6 _ rfl).1
  have o0 := (O1.out.2 0 _ rfl).1; have o1 := (O1.out.2 1 _ rfl).1; have o2 := (O1.out.2 2 _ rfl).1; have o3 := (O1.out.2 3 _ rfl).1; have o4 := (O1.out.2 4 _ rfl).1; have o5 := (O1.out.2 5 _ rfl).1; have o6 := (O1.out.2 6 _ rfl).1
  have f0 := (O1.out.2 0 _ rfl).2; have f1 := (O1.out.2 1 _ rfl).2; have f2 := (O1.out.2 2 _ rfl).2; have f3 := (O1.out.2 3 _ rfl).2; have f4 := (O1.out.2 4 _ rfl).2; have f5 := (O1.out.2 5 _ rfl).2; have f6 := (O1.out.2 6 _ rfl).2
  go_wp2_with fail
  have s0' := R1.out.lt
  have O2 : Hid (Box ((((w1.setCell ⟨w.heap.size + 1 + 1, 0, none⟩ (.slice X n4 k)).setCell ⟨w.heap.size + 1 + 1, 1, none⟩ (.int .i64 p)).setCell ⟨w.heap.size + 1 + 1, 2, none⟩ (.slice X' n4' k')).setCell ⟨w.heap.size + 1 + 1, 3, none⟩ (.int .i64 q)) (w.heap.size + 1 + 1) [.slice (X) n4 k, .int .i64 (p), .slice (X') n4' k', .int .i64 (q), .slice (none) 0 0, .slice (none) 0 0, .int .i64 (0)]) := by
    show Box _ _ _
    have hx := (((O1.out.put (i := 0) (by simp) (.slice X n4 k)).put (i := 1) (by simp) (.int .i64 p)).put (i := 2) (by simp) (.slice X' n4' k')).put (i := 3) (by simp) (.int .i64 q)
    simpa using hx
  have X2 : Hid (Box ((((w1.setCell ⟨w.heap.size + 1 + 1, 0, none⟩ (.slice X n4 k)).setCell ⟨w.heap.size + 1 + 1, 1, none⟩ (.int .i64 p)).setCell ⟨w.heap.size + 1 + 1, 2, none⟩ (.slice X' n4' k')).setCell ⟨w.heap.size + 1 + 1, 3, none⟩ (.int .i64 q)) w.heap.size [.slice (A) n c, .int .i64 (p), .slice (A') n' c', .int .i64 (q), .slice (A2) n2 c2, .slice (A3) n3 c3, .int .i64 (z)]) := (((X1.out.set_ (by omega) _).set_ (by omega) _).set_ (by omega) _).set_ (by omega) _
  have R2 : Hid (Box ((((w1.setCell ⟨w.heap.size + 1 + 1, 0, none⟩ (.slice X n4 k)).setCell ⟨w.heap.size + 1 + 1, 1, none⟩ (.int .i64 p)).setCell ⟨w.heap.size + 1 + 1, 2, none⟩ (.slice X' n4' k')).setCell ⟨w.heap.size + 1 + 1, 3, none⟩ (.int .i64 q)) (w.heap.size + 1) [.slice none 0 0, .int .i64 0, .slice none 0 0, .int .i64 0, .slice none 0 0, .slice none 0 0, .int .i64 0]) := (((R1.out.set_ (by omega) _).set_ (by omega) _).set_ (by omega) _).set_ (by omega) _
  have G3 : Hid (Ints ((((w1.setCell ⟨w.heap.size + 1 + 1, 0, none⟩ (.slice X n4 k)).setCell ⟨w.heap.size + 1 + 1, 1, none⟩ (.int .i64 p)).setCell ⟨w.heap.size + 1 + 1, 2, none⟩ (.slice X' n4' k')).setCell ⟨w.heap.size + 1 + 1, 3, none⟩ (.int .i64 q)) M C A2 n2 R) := (((G2.out.set_ (by omega) _).set_ (by omega) _).set_ (by omega) _).set_ (by omega) _
  have J3 : Hid (Ints ((((w1.setCell ⟨w.heap.size + 1 + 1, 0, none⟩ (.slice X n4 k)).setCell ⟨w.heap.size + 1 + 1, 1, none⟩ (.int .i64 p)).setCell ⟨w.heap.size + 1 + 1, 2, none⟩ (.slice X' n4' k')).setCell ⟨w.heap.size + 1 + 1, 3, none⟩ (.int .i64 q)) U V A3 n3 Q) := (((J2.out.set_ (by omega) _).set_ (by omega) _).set_ (by omega) _).set_ (by omega) _
  have D2 : Hid (Ints ((((w1.setCell ⟨w.heap.size + 1 + 1, 0, none⟩ (.slice X n4 k)).setCell ⟨w.heap.size + 1 + 1, 1, none⟩ (.int .i64 p)).setCell ⟨w.heap.size + 1 + 1, 2, none⟩ (.slice X' n4' k')).setCell ⟨w.heap.size + 1 + 1, 3, none⟩ (.int .i64 q)) w0.heap.size w1.heap.size X n4 D) := (((HX.out.set_ (by omega) _).set_ (by omega) _).set_ (by omega) _).set_ (by omega) _
  have D2' : Hid (Ints ((((w1.setCell ⟨w.heap.size + 1 + 1, 0, none⟩ (.slice X n4 k)).setCell ⟨w.heap.size + 1 + 1, 1, none⟩ (.int .i64 p)).setCell ⟨w.heap.size + 1 + 1, 2, none⟩ (.slice X' n4' k')).setCell ⟨w.heap.size + 1 + 1, 3, none⟩ (.int .i64 q)) w0.heap.size w1.heap.size X' n4' S) := (((HX'.out.set_ (by omega) _).set_ (by omega) _).set_ (by omega) _).set_ (by omega) _
  have E2 : Hid (Below w.heap.size w ((((w1.setCell ⟨w.heap.size + 1 + 1, 0, none⟩ (.slice X n4 k)).setCell ⟨w.heap.size + 1 + 1, 1, none⟩ (.int .i64 p)).setCell ⟨w.heap.size + 1 + 1, 2, none⟩ (.slice X' n4' k')).setCell ⟨w.heap.size + 1 + 1, 3, none⟩ (.int .i64 q))) := below_set (below_set (below_set (below_set E1.out (by omega) _) (by omega) _) (by omega) _) (by omega) _
  have s2 : ((((w1.setCell ⟨w.heap.size + 1 + 1, 0, none⟩ (.slice X n4 k)).setCell ⟨w.heap.size + 1 + 1, 1, none⟩ (.int .i64 p)).setCell ⟨w.heap.size + 1 + 1, 2, none⟩ (.slice X' n4' k')).setCell ⟨w.heap.size + 1 + 1, 3, none⟩ (.int .i64 q)).heap.size = w1.heap.size := by simp only [World.size_setCell]
  generalize (((w1.setCell ⟨w.heap.size + 1 + 1, 0, none⟩ (.slice X n4 k)).setCell ⟨w.heap.size + 1 + 1, 1, none⟩ (.int .i64 p)).setCell ⟨w.heap.size + 1 + 1, 2, none⟩ (.slice X' n4' k')).setCell ⟨w.heap.size + 1 + 1, 3, none⟩ (.int .i64 q) = w2 at *
  clear O1 X1 R1 G2 J2 HX HX' E1
  clear o0 o1 o2 o3 o4 o5 o6
  clear f0 f1 f2 f3 f4 f5 f6
  clear x0 x1 x2 x3 x4 x5 x6
  refine (toIntS_b G3.out (by omega) hn2).mono ?_
  rintro e w3 ⟨A4, c4, rfl, hc4, hb3, hi3⟩
  have s3 := hb3.size
  have X3 := Lib.hid (X2.out.below hb3 (by omega))
  have R3 := Lib.hid (R2.out.below hb3 (by omega))
  have O3 := Lib.hid (O2.out.below hb3 (by omega))
  have D3 := Lib.hid (D2.out.below hb3 (by omega))
  have D3' := Lib.hid (D2'.out.below hb3 (by omega))
  have J4 := Lib.hid (J3.out.below hb3 (by omega))
  have E3 := Lib.hid (below_step hb3 E2.out (by omega))
  have HI := Lib.hid hi3
  clear hb3 hi3 X2 R2 O2 D2 D2' E2 G3 J3
  have x0 := (X3.out.2 0 _ rfl).1; have x1 := (X3.out.2 1 _ rfl).1; have x2 := (X3.out.2 2 _ rfl).1; have x3 := (X3.out.2 3 _ rfl).1; have x4 := (X3.out.2 4 _ rfl).1; have x5 := (X3.out.2 5 _ rfl).1; have x6 := (X3.out.2 6 _ rfl).1
  have o0 := (O3.out.2 0 _ rfl).1; have o1 := (O3.out.2 1 _ rfl).1; have o2 := (O3.out.2 2 _ rfl).1; have o3 := (O3.out.2 3 _ rfl).1; have o4 := (O3.out.2 4 _ rfl).1; have o5 := (O3.out.2 5 _ rfl).1; have o6 := (O3.out.2 6 _ rfl).1
  have f0 := (O3.out.2 0 _ rfl).2; have f1 := (O3.out.2 1 _ rfl).2; have f2 := (O3.out.2 2 _ rfl).2; have f3 := (O3.out.2 3 _ rfl).2; have f4 := (O3.out.2 4 _ rfl).2; have f5 := (O3.out.2 5 _ rfl).2; have f6 := (O3.out.2 6 _ rfl).2
  go_wp2_with fail
  have O4 : Hid (Box (w3.setCell ⟨w.heap.size + 1 + 1, 4, none⟩ (.slice A4 n2 c4)) (w.heap.size + 1 + 1) [.slice (X) n4 k, .int .i64 (p), .slice (X') n4' k', .int .i64 (q), .slice (A4) n2 c4, .slice (none) 0 0, .int .i64 (0)]) := by
    show Box _ _ _
    have hx := O3.out.put (i := 4) (by simp) (.slice A4 n2 c4)
    simpa using hx
  have X4 : Hid (Box (w3.setCell ⟨w.heap.size + 1 + 1, 4, none⟩ (.slice A4 n2 c4)) w.heap.size [.slice (A) n c, .int .i64 (p), .slice (A') n' c', .int .i64 (q), .slice (A2) n2 c2, .slice (A3) n3 c3, .int .i64 (z)]) := X3.out.set_ (by omega) _
  have R4 : Hid (Box (w3.setCell ⟨w.heap.size + 1 + 1, 4, none⟩ (.slice A4 n2 c4)) (w.heap.size + 1) [.slice none 0 0, .int .i64 0, .slice none 0 0, .int .i64 0, .slice none 0 0, .slice none 0 0, .int .i64 0]) := R3.out.set_ (by omega) _
  have J5 : Hid (Ints (w3.setCell ⟨w.heap.size + 1 + 1, 4, none⟩ (.slice A4 n2 c4)) U V A3 n3 Q) := J4.out.set_ (by omega) _
  have D4 : Hid (Ints (w3.setCell ⟨w.heap.size + 1 + 1, 4, none⟩ (.slice A4 n2 c4)) w0.heap.size w1.heap.size X n4 D) := D3.out.set_ (by omega) _
  have D4' : Hid (Ints (w3.setCell ⟨w.heap.size + 1 + 1, 4, none⟩ (.slice A4 n2 c4)) w0.heap.size w1.heap.size X' n4' S) := D3'.out.set_ (by omega) _
  have I4 : Hid (Ints (w3.setCell ⟨w.heap.size + 1 + 1, 4, none⟩ (.slice A4 n2 c4)) w2.heap.size w3.heap.size A4 n2 R) := HI.out.set_ (by omega) _
  have E4 : Hid (Below w.heap.size w (w3.setCell ⟨w.heap.size + 1 + 1, 4, none⟩ (.slice A4 n2 c4))) := below_set E3.out (by omega) _
  have s4 : (w3.setCell ⟨w.heap.size + 1 + 1, 4, none⟩ (.slice A4 n2 c4)).heap.size = w3.heap.size := by simp only [World.size_setCell]
  generalize w3.setCell ⟨w.heap.size + 1 + 1, 4, none⟩ (.slice A4 n2 c4) = w4 at *
  clear O3 X3 R3 J4 D3 D3' HI E3
  clear o0 o1 o2 o3 o4 o5 o6
  clear f0 f1 f2 f3 f4 f5 f6
  clear x0 x1 x2 x3 x4 x5 x6
  refine (toIntS_b J5.out (by omega) hn3).mono ?_
  rintro e w5 ⟨A5, c5, rfl, hc5, hb5, hi5⟩
  have s5 := hb5.size
  have X5 := Lib.hid (X4.out.below hb5 (by omega))
  have R5 := Lib.hid (R4.out.below hb5 (by omega))
  have O5 := Lib.hid (O4.out.below hb5 (by omega))
  have D5 := Lib.hid (D4.out.below hb5 (by omega))
  have D5' := Lib.hid (D4'.out.below hb5 (by omega))
  have I5 := Lib.hid (I4.out.below hb5 (by omega))
  have E5 := Lib.hid (below_step hb5 E4.out (by omega))
  have K5 := Lib.hid hi5
  clear hb5 hi5 X4 R4 O4 D4 D4' I4 E4 J5
  have x0 := (X5.out.2 0 _ rfl).1; have x1 := (X5.out.2 1 _ rfl).1; have x2 := (X5.out.2 2 _ rfl).1; have x3 := (X5.out.2 3 _ rfl).1; have x4 := (X5.out.2 4 _ rfl).1; have x5 := (X5.out.2 5 _ rfl).1; have x6 := (X5.out.2 6 _ rfl).1
  have o0 := (O5.out.2 0 _ rfl).1; have o1 := (O5.out.2 1 _ rfl).1; have o2 := (O5.out.2 2 _ rfl).1; have o3 := (O5.out.2 3 _ rfl).1; have o4 := (O5.out.2 4 _ rfl).1; have o5 := (O5.out.2 5 _ rfl).1; have o6 := (O5.out.2 6 _ rfl).1
  have f0 := (O5.out.2 0 _ rfl).2; have f1 := (O5.out.2 1 _ rfl).2; have f2 := (O5.out.2 2 _ rfl).2; have f3 := (O5.out.2 3 _ rfl).2; have f4 := (O5.out.2 4 _ rfl).2; have f5 := (O5.out.2 5 _ rfl).2; have f6 := (O5.out.2 6 _ rfl).2
  have r0 := (R5.out.2 0 _ rfl).1; have r1 := (R5.out.2 1 _ rfl).1; have r2 := (R5.out.2 2 _ rfl).1; have r3 := (R5.out.2 3 _ rfl).1; have r4 := (R5.out.2 4 _ rfl).1; have r5 := (R5.out.2 5 _ rfl).1; have r6 := (R5.out.2 6 _ rfl).1
  have g0 := (R5.out.2 0 _ rfl).2; have g1 := (R5.out.2 1 _ rfl).2; have g2 := (R5.out.2 2 _ rfl).2; have g3 := (R5.out.2 3 _ rfl).2; have g4 := (R5.out.2 4 _ rfl).2; have g5 := (R5.out.2 5 _ rfl).2; have g6 := (R5.out.2 6 _ rfl).2
  go_wp2
  refine bodyPost_ret (v := .agg #[.slice (X) n4 k, .int .i64 (p), .slice (X') n4' k', .int .i64 (q), .slice (A4) n2 c4, .slice (A5) n3 c5, .int .i64 (z)]) (by simp [results, Tryd.results33, go_sem, x0, x1, x2, x3, x4, x5, x6, o0, o1, o2, o3, o4, o5, o6, f0, f1, f2, f3, f4, f5, f6, r0, r1, r2, r3, r4, r5, r6, g0, g1, g2, g3, g4, g5, g6]) rfl ?_
  refine ⟨_, _, _, _, _, _, _, _, _, _, _, _, rfl, ⟨hk, hk', hc4, hc5⟩, ?_, ⟨⟨⟨?_, ?_, HA.out, hp, hq⟩, ?_, (Apart.of_le D5.out I5.out (by omega)).symm, (Apart.of_le D5'.out I5.out (by omega)).symm, hz⟩, ?_, (Apart.of_le D5.out K5.out (by omega)).symm, (Apart.of_le D5'.out K5.out (by omega)).symm, (Apart.of_le I5.out K5.out (by omega)).symm⟩⟩
  · (repeat (with_reducible refine below_set ?_ (by omega) _))
    exact E5.out
  · simp only [World.size_setCell]
    refine Ints.more (lo := w0.heap.size) (hi := w1.heap.size) ?_ (by omega) (by omega)
    (repeat (with_reducible refine Ints.set_ ?_ (by omega) _))
    exact D5.out
  · simp only [World.size_setCell]
    refine Ints.more (lo := w0.heap.size) (hi := w1.heap.size) ?_ (by omega) (by omega)
    (repeat (with_reducible refine Ints.set_ ?_ (by omega) _))
    exact D5'.out
  · simp only [World.size_setCell]
    refine Ints.more (lo := w2.heap.size) (hi := w3.heap.size) ?_ (by omega) (by omega)
    (repeat (with_reducible refine Ints.set_ ?_ (by omega) _))
    exact I5.out
  · simp only [World.size_setCell]
    refine Ints.more (lo := w4.heap.size) (hi := w5.heap.size) ?_ (by omega) (by omega)
    (repeat (with_reducible refine Ints.set_ ?_ (by omega) _))
    exact K5.out

set_option maxHeartbeats 4000000 in
theorem eqBoth_same {A A' A2 A3 X X' X2 X3 : Option Addr} {n c n' c' n2 c2 n3 c3 k d k' d' k2 d2 k3 d3 : Nat} {D S R Q : List Int} {p q z : Int} {w : World} {L B L' B' M C M3 C3 U V U' V' Y Z Y3 Z3 : Nat}
    (h : Ints w L B A n D) (h' : Ints w L' B' A' n' S) (g : Ints w M C A2 n2 R) (g3 : Ints w M3 C3 A3 n3 Q) (i : Ints w U V X k D) (i' : Ints w U' V' X' k' S) (j : Ints w Y Z X2 k2 R) (j3 : Ints w Y3 Z3 X3 k3 Q)
    (hB : B ≤ w.heap.size) (hB' : B' ≤ w.heap.size) (hC : C ≤ w.heap.size) (hC3 : C3 ≤ w.heap.size) (hV : V ≤ w.heap.size) (hV' : V' ≤ w.heap.size) (hZ : Z ≤ w.heap.size) (hZ3 : Z3 ≤ w.heap.size) :
    Calls Tryd.prog 35 #[.agg #[.slice (A) n c, .int .i64 (p), .slice (A') n' c', .int .i64 (q), .slice (A2) n2 c2, .slice (A3) n3 c3, .int .i64 (z)], .agg #[.slice (X) k d, .int .i64 (p), .slice (X') k' d', .int .i64 (q), .slice (X2) k2 d2, .slice (X3) k3 d3, .int .i64 (z)]] w (BoolB true w) := by
  have H1 := Lib.hid ((h.alloc hB (.cells #[.slice (A) n c, .int .i64 (p), .slice (A') n' c', .int .i64 (q), .slice (A2) n2 c2, .slice (A3) n3 c3, .int .i64 (z)] 51)).alloc (by first | omega | (simp; omega) | (simp; done)) (.cells #[.slice (X) k d, .int .i64 (p), .slice (X') k' d', .int .i64 (q), .slice (X2) k2 d2, .slice (X3) k3 d3, .int .i64 (z)] 51))
  have H2 := Lib.hid ((h'.alloc hB' (.cells #[.slice (A) n c, .int .i64 (p), .slice (A') n' c', .int .i64 (q), .slice (A2) n2 c2, .slice (A3) n3 c3, .int .i64 (z)] 51)).alloc (by first | omega | (simp; omega) | (simp; done)) (.cells #[.slice (X) k d, .int .i64 (p), .slice (X') k' d', .int .i64 (q), .slice (X2) k2 d2, .slice (X3) k3 d3, .int .i64 (z)] 51))
  have H3 := Lib.hid ((g.alloc hC (.cells #[.slice (A) n c, .int .i64 (p), .slice (A') n' c', .int .i64 (q), .slice (A2) n2 c2, .slice (A3) n3 c3, .int .i64 (z)] 51)).alloc (by first | omega | (simp; omega) | (simp; done)) (.cells #[.slice (X) k d, .int .i64 (p), .slice (X') k' d', .int .i64 (q), .slice (X2) k2 d2, .slice (X3) k3 d3, .int .i64 (z)] 51))
  have H4 := Lib.hid ((g3.alloc hC3 (.cells #[.slice (A) n c, .int .i64 (p), .slice (A') n' c', .int .i64 (q), .slice (A2) n2 c2, .slice (A3) n3 c3, .int .i64 (z)] 51)).alloc (by first | omega | (simp; omega) | (simp; done)) (.cells #[.slice (X) k d, .int .i64 (p), .slice (X') k' d', .int .i64 (q), .slice (X2) k2 d2, .slice (X3) k3 d3, .int .i64 (z)] 51))
  have I1 := Lib.hid ((i.alloc hV (.cells #[.slice (A) n c, .int .i64 (p), .slice (A') n' c', .int .i64 (q), .slice (A2) n2 c2, .slice (A3) n3 c3, .int .i64 (z)] 51)).alloc (by first | omega | (simp; omega) | (simp; done)) (.cells #[.slice (X) k d, .int .i64 (p), .slice (X') k' d', .int .i64 (q), .slice (X2) k2 d2, .slice (X3) k3 d3, .int .i64 (z)] 51))
  have I2 := Lib.hid ((i'.alloc hV' (.cells #[.slice (A) n c, .int .i64 (p), .slice (A') n' c', .int .i64 (q), .slice (A2) n2 c2, .slice (A3) n3 c3, .int .i64 (z)] 51)).alloc (by first | omega | (simp; omega) | (simp; done)) (.cells #[.slice (X) k d, .int .i64 (p), .slice (X') k' d', .int .i64 (q), .slice (X2) k2 d2, .slice (X3) k3 d3, .int .i64 (z)] 51))
  have I3 := Lib.hid ((j.alloc hZ (.cells #[.slice (A) n c, .int .i64 (p), .slice (A') n' c', .int .i64 (q), .slice (A2) n2 c2, .slice (A3) n3 c3, .int .i64 (z)] 51)).alloc (by first | omega | (simp; omega) | (simp; done)) (.cells #[.slice (X) k d, .int .i64 (p), .slice (X') k' d', .int .i64 (q), .slice (X2) k2 d2, .slice (X3) k3 d3, .int .i64 (z)] 51))
  have I4 := Lib.hid ((j3.alloc hZ3 (.cells #[.slice (A) n c, .int .i64 (p), .slice (A') n' c', .int .i64 (q), .slice (A2) n2 c2, .slice (A3) n3 c3, .int .i64 (z)] 51)).alloc (by first | omega | (simp; omega) | (simp; done)) (.cells #[.slice (X) k d, .int .i64 (p), .slice (X') k' d', .int .i64 (q), .slice (X2) k2 d2, .slice (X3) k3 d3, .int .i64 (z)] 51))
  have X0 := Lib.hid ((Box.new w 51 [.slice (A) n c, .int .i64 (p), .slice (A') n' c', .int .i64 (q), .slice (A2) n2 c2, .slice (A3) n3 c3, .int .i64 (z)]).alloc (.cells #[.slice (X) k d, .int .i64 (p), .slice (X') k' d', .int .i64 (q), .slice (X2) k2 d2, .slice (X3) k3 d3, .int .i64 (z)] 51))
  have Y0 := Lib.hid (Box.new (w.alloc (.cells #[.slice (A) n c, .int .i64 (p), .slice (A') n' c', .int .i64 (q), .slice (A2) n2 c2, .slice (A3) n3 c3, .int .i64 (z)] 51)) 51 [.slice (X) k d, .int .i64 (p), .slice (X') k' d', .int .i64 (q), .slice (X2) k2 d2, .slice (X3) k3 d3, .int .i64 (z)])
  (try simp only [World.size_alloc, World.size_setCell, World.size_drew] at Y0)
  clear h h' g g3 i i' j j3
  go_enter Tryd.func35, Tryd.ntmps35
  go_wp2_with fail
  refine (eqDevice_same H1.out H2.out I1.out I2.out (by first | omega | (simp; omega) | (simp; done)) (by first | omega | (simp; omega) | (simp; done)) (by first | omega | (simp; omega) | (simp; done)) (by first | omega | (simp; omega) | (simp; done))).mono ?_
  rintro e w1 ⟨rfl, hb⟩
  (try simp only [World.size_alloc, World.size_setCell, World.size_drew] at hb)
  have X1 := Lib.hid (X0.out.below hb (by omega))
  have Y1 := Lib.hid (Y0.out.below hb (by omega))
  have J1 := Lib.hid (H3.out.below hb (by first | omega | (simp; omega) | (simp; done)))
  have J2 := Lib.hid (I3.out.below hb (by first | omega | (simp; omega) | (simp; done)))
  have K1 := Lib.hid (H4.out.below hb (by first | omega | (simp; omega) | (simp; done)))
  have K2 := Lib.hid (I4.out.below hb (by first | omega | (simp; omega) | (simp; done)))
  have E1 : Hid (Below w.heap.size w w1) := below_step hb (by go_grown) (by omega)
  have s1 := hb.size
  (try simp only [World.size_alloc, World.size_setCell, World.size_drew] at s1)
  clear hb X0 Y0 H1 H2 H3 H4 I1 I2 I3 I4
  have x0 := (X1.out.2 0 _ rfl).1; have x1 := (X1.out.2 1 _ rfl).1; have x2 := (X1.out.2 2 _ rfl).1; have x3 := (X1.out.2 3 _ rfl).1; have x4 := (X1.out.2 4 _ rfl).1; have x5 := (X1.out.2 5 _ rfl).1; have x6 := (X1.out.2 6 _ rfl).1
  have y0 := (Y1.out.2 0 _ rfl).1; have y1 := (Y1.out.2 1 _ rfl).1; have y2 := (Y1.out.2 2 _ rfl).1; have y3 := (Y1.out.2 3 _ rfl).1; have y4 := (Y1.out.2 4 _ rfl).1; have y5 := (Y1.out.2 5 _ rfl).1; have y6 := (Y1.out.2 6 _ rfl).1
  go_wp2_with fail
  refine (eqIntS_same J1.out J2.out).mono ?_
  rintro e w2 ⟨rfl, hb⟩
  have X2 := Lib.hid (X1.out.below hb (by omega))
  have Y2 := Lib.hid (Y1.out.below hb (by omega))
  have L1 := Lib.hid (K1.out.below hb (by omega))
  have L2 := Lib.hid (K2.out.below hb (by omega))
  have E2 := Lib.hid (below_step hb E1.out (by omega))
  have s2 := hb.size
  clear hb X1 Y1 J1 J2 K1 K2 E1
  clear x0 x1 x2 x3 x4 x5 x6
  clear y0 y1 y2 y3 y4 y5 y6
  have x0 := (X2.out.2 0 _ rfl).1; have x1 := (X2.out.2 1 _ rfl).1; have x2 := (X2.out.2 2 _ rfl).1; have x3 := (X2.out.2 3 _ rfl).1; have x4 := (X2.out.2 4 _ rfl).1; have x5 := (X2.out.2 5 _ rfl).1; have x6 := (X2.out.2 6 _ rfl).1
  have y0 := (Y2.out.2 0 _ rfl).1; have y1 := (Y2.out.2 1 _ rfl).1; have y2 := (Y2.out.2 2 _ rfl).1; have y3 := (Y2.out.2 3 _ rfl).1; have y4 := (Y2.out.2 4 _ rfl).1; have y5 := (Y2.out.2 5 _ rfl).1; have y6 := (Y2.out.2 6 _ rfl).1
  go_wp2_with fail
  refine (eqIntS_same L1.out L2.out).mono ?_
  rintro e w3 ⟨rfl, hb⟩
  have X3 := Lib.hid (X2.out.below hb (by omega))
  have Y3 := Lib.hid (Y2.out.below hb (by omega))
  have E3 := Lib.hid (below_step hb E2.out (by omega))
  clear hb X2 Y2 L1 L2 E2
  clear x0 x1 x2 x3 x4 x5 x6
  clear y0 y1 y2 y3 y4 y5 y6
  have x0 := (X3.out.2 0 _ rfl).1; have x1 := (X3.out.2 1 _ rfl).1; have x2 := (X3.out.2 2 _ rfl).1; have x3 := (X3.out.2 3 _ rfl).1; have x4 := (X3.out.2 4 _ rfl).1; have x5 := (X3.out.2 5 _ rfl).1; have x6 := (X3.out.2 6 _ rfl).1
  have y0 := (Y3.out.2 0 _ rfl).1; have y1 := (Y3.out.2 1 _ rfl).1; have y2 := (Y3.out.2 2 _ rfl).1; have y3 := (Y3.out.2 3 _ rfl).1; have y4 := (Y3.out.2 4 _ rfl).1; have y5 := (Y3.out.2 5 _ rfl).1; have y6 := (Y3.out.2 6 _ rfl).1
  go_wp2
  go_ret
  exact ⟨rfl, E3.out⟩

/-- Only the four slices' own cells have turned, of what was there. -/
def MarkB (w w' : World) (A : Option Addr) (n : Nat) (A' : Option Addr) (n' : Nat) (A2 : Option Addr) (n2 : Nat) (A3 : Option Addr) (n3 : Nat) : Prop :=
  w'.os = w.os ∧ w'.tape = w.tape ∧ w'.output = w.output ∧ w.heap.size ≤ w'.heap.size ∧ (∀ b, b < w.heap.size → (0 < n → ∀ ad : Addr, A = some ad → ad.block ≠ b) → (0 < n' → ∀ ad : Addr, A' = some ad → ad.block ≠ b) → (0 < n2 → ∀ ad : Addr, A2 = some ad → ad.block ≠ b) → (0 < n3 → ∀ ad : Addr, A3 = some ad → ad.block ≠ b) → w'.heap[b]? = w.heap[b]?) ∧
    ∀ b o, b < w.heap.size → OutOf A n b o → OutOf A' n' b o → OutOf A2 n2 b o → OutOf A3 n3 b o → SameAt w w' b o
theorem MarkB.size {w w' : World} {A A' A2 A3 : Option Addr} {n n' n2 n3 : Nat} (h : MarkB w w' A n A' n' A2 n2 A3 n3) : w.heap.size ≤ w'.heap.size := h.2.2.2.1
theorem Ints.markB {w w' : World} {A A' A2 A3 X : Option Addr} {n n' n2 n3 m lo hi : Nat} {xs : List Int} (h : Ints w lo hi X m xs) (hm : MarkB w w' A n A' n' A2 n2 A3 n3) (hB : hi ≤ w.heap.size) (ha : Apart A n X m) (ha' : Apart A' n' X m) (ha2 : Apart A2 n2 X m) (ha3 : Apart A3 n3 X m) : Ints w' lo hi X m xs := by
  by_cases h0 : m = 0
  · subst h0
    exact ⟨h.1, h.2.1, h.2.2.1, fun hn => absurd hn (by omega)⟩
  · obtain ⟨b, o, e, h1, h2, hc⟩ := h.2.2.2 (by omega)
    refine ⟨h.1, h.2.1, h.2.2.1, fun _ => ⟨b, o, e, h1, h2, fun j x hx => ?_⟩⟩
    have hj : j < m := by have := h.1; have := (List.getElem?_eq_some_iff.1 hx).1; omega
    have hs := hm.2.2.2.2.2 b (o + j) (by omega) (OutOf.of_apart ha e hj) (OutOf.of_apart ha' e hj) (OutOf.of_apart ha2 e hj) (OutOf.of_apart ha3 e hj)
    exact ⟨hs.1.trans (hc j x hx).1, hs.2.trans (hc j x hx).2⟩
theorem Box.markB {w w' : World} {A A' A2 A3 : Option Addr} {n n' n2 n3 lo hi lo' hi' lo2 hi2 lo3 hi3 b : Nat} {xs xs' xs2 xs3 : List Int} {cs : List Value} (hx : Box w b cs) (hm : MarkB w w' A n A' n' A2 n2 A3 n3) (h : Ints w lo hi A n xs) (h' : Ints w lo' hi' A' n' xs') (g : Ints w lo2 hi2 A2 n2 xs2) (j : Ints w lo3 hi3 A3 n3 xs3) (hb : b < lo ∨ hi ≤ b) (hb' : b < lo' ∨ hi' ≤ b) (hb2 : b < lo2 ∨ hi2 ≤ b) (hb3 : b < lo3 ∨ hi3 ≤ b) : Box w' b cs :=
  hx.block (hm.2.2.2.2.1 b hx.1 (not_in h hb) (not_in h' hb') (not_in g hb2) (not_in j hb3)) hm.size
theorem below_markB {a w w' : World} {A A' A2 A3 : Option Addr} {n n' n2 n3 lo hi lo' hi' lo2 hi2 lo3 hi3 B : Nat} {xs xs' xs2 xs3 : List Int} (hx : Below B a w) (hm : MarkB w w' A n A' n' A2 n2 A3 n3) (h : Ints w lo hi A n xs) (h' : Ints w lo' hi' A' n' xs') (g : Ints w lo2 hi2 A2 n2 xs2) (j : Ints w lo3 hi3 A3 n3 xs3) (hb : B ≤ lo) (hb' : B ≤ lo') (hb2 : B ≤ lo2) (hb3 : B ≤ lo3) (hB : B ≤ w.heap.size) : Below B a w' :=
  hx.trans ⟨hm.1, hm.2.1, hm.2.2.1, hm.size, fun k hk => hm.2.2.2.2.1 k (by omega) (not_in h (.inl (by omega))) (not_in h' (.inl (by omega))) (not_in g (.inl (by omega))) (not_in j (.inl (by omega)))⟩
def MarkBPost (A : Option Addr) (n lo hi : Nat) (A' : Option Addr) (n' lo' hi' : Nat) (A2 : Option Addr) (n2 lo2 hi2 : Nat) (A3 : Option Addr) (n3 lo3 hi3 : Nat) (k : Int) (w : World) (e : Ending) (w' : World) : Prop :=
  e = .returned (.int .i64 (k + (n : Int) + (n' : Int) + (n2 : Int) + (n3 : Int))) ∧ MarkB w w' A n A' n' A2 n2 A3 n3 ∧ Ints w' lo hi A n (seqI k n) ∧ Ints w' lo' hi' A' n' (seqI (k + (n : Int)) n') ∧ Ints w' lo2 hi2 A2 n2 (seqI (k + (n : Int) + (n' : Int)) n2) ∧ Ints w' lo3 hi3 A3 n3 (seqI (k + (n : Int) + (n' : Int) + (n2 : Int)) n3)
set_option maxHeartbeats 2000000 in
theorem markBoth_any {A A' A2 A3 : Option Addr} {n c n' c' n2 c2 n3 c3 : Nat} {D S R Q : List Int} {p q z k : Int} {w : World} {L L' B B' M C U V : Nat} (h : Ints w L B A n D) (h' : Ints w L' B' A' n' S) (g : Ints w M C A2 n2 R) (j : Ints w U V A3 n3 Q) (hap : Apart A n A' n') (hap1 : Apart A2 n2 A n) (hap2 : Apart A2 n2 A' n') (hap3 : Apart A3 n3 A n) (hap4 : Apart A3 n3 A' n') (hap5 : Apart A3 n3 A2 n2) (hB : B ≤ w.heap.size) (hB' : B' ≤ w.heap.size) (hC : C ≤ w.heap.size) (hV : V ≤ w.heap.size)
    (hk : 0 ≤ k) (hk2 : k ≤ 10000000) (hn : n ≤ 1048576) (hn' : n' ≤ 1048576) (hn2 : n2 ≤ 1048576) (hn3 : n3 ≤ 1048576) :
    Calls Tryd.prog 36 #[.agg #[.slice (A) n c, .int .i64 (p), .slice (A') n' c', .int .i64 (q), .slice (A2) n2 c2, .slice (A3) n3 c3, .int .i64 (z)], .int .i64 k] w (MarkBPost A n L B A' n' L' B' A2 n2 M C A3 n3 U V k w) := by
  have H1 := Lib.hid (h.alloc hB (.cells #[.slice (A) n c, .int .i64 (p), .slice (A') n' c', .int .i64 (q), .slice (A2) n2 c2, .slice (A3) n3 c3, .int .i64 (z)] 51))
  have H2 := Lib.hid (h'.alloc hB' (.cells #[.slice (A) n c, .int .i64 (p), .slice (A') n' c', .int .i64 (q), .slice (A2) n2 c2, .slice (A3) n3 c3, .int .i64 (z)] 51))
  have H3 := Lib.hid (g.alloc hC (.cells #[.slice (A) n c, .int .i64 (p), .slice (A') n' c', .int .i64 (q), .slice (A2) n2 c2, .slice (A3) n3 c3, .int .i64 (z)] 51))
  have H4 := Lib.hid (j.alloc hV (.cells #[.slice (A) n c, .int .i64 (p), .slice (A') n' c', .int .i64 (q), .slice (A2) n2 c2, .slice (A3) n3 c3, .int .i64 (z)] 51))
  have X0 := Lib.hid (Box.new w 51 [.slice (A) n c, .int .i64 (p), .slice (A') n' c', .int .i64 (q), .slice (A2) n2 c2, .slice (A3) n3 c3, .int .i64 (z)])
  go_enter Tryd.func36, Tryd.ntmps36
  go_wp2_with fail
  refine (markDevice_any H1.out H2.out hap (by first | omega | (simp; omega) | (simp; done)) (by first | omega | (simp; omega) | (simp; done)) hk (by omega) hn hn').mono ?_
  rintro e w1 ⟨rfl, hm1, hi1, hi1'⟩
  have HM1 := Lib.hid hm1
  have HI1 := Lib.hid hi1
  have HI1' := Lib.hid hi1'
  have X1 := Lib.hid (X0.out.markD hm1 H1.out H2.out (.inr (by omega)) (.inr (by omega)))
  have I2 := Lib.hid (H3.out.markD hm1 (by first | omega | (simp; omega) | (simp; done)) hap1.symm hap2.symm)
  have I3 := Lib.hid (H4.out.markD hm1 (by first | omega | (simp; omega) | (simp; done)) hap3.symm hap4.symm)
  have s1 := Lib.hid hm1.size
  clear hm1 hi1 hi1'
  have x0 := (X1.out.2 0 _ rfl).1; have x1 := (X1.out.2 1 _ rfl).1; have x2 := (X1.out.2 2 _ rfl).1; have x3 := (X1.out.2 3 _ rfl).1; have x4 := (X1.out.2 4 _ rfl).1; have x5 := (X1.out.2 5 _ rfl).1; have x6 := (X1.out.2 6 _ rfl).1
  go_wp2_with fail
  refine (markIntS_any I2.out (by omega) (by omega) hn2).mono ?_
  rintro e w2 ⟨rfl, hm2, hi2⟩
  have HM2 := Lib.hid hm2
  have HI2 := Lib.hid hi2
  have X2 := Lib.hid (X1.out.mark hm2 I2.out (.inr (by omega)))
  have I4 := Lib.hid (I3.out.mark hm2 hap5.symm)
  have s2 := Lib.hid hm2.size
  clear hm2 hi2
  clear x0 x1 x2 x3 x4 x5 x6
  have x0 := (X2.out.2 0 _ rfl).1; have x1 := (X2.out.2 1 _ rfl).1; have x2 := (X2.out.2 2 _ rfl).1; have x3 := (X2.out.2 3 _ rfl).1; have x4 := (X2.out.2 4 _ rfl).1; have x5 := (X2.out.2 5 _ rfl).1; have x6 := (X2.out.2 6 _ rfl).1
  go_wp2_with fail
  refine (markIntS_any I4.out (by omega) (by omega) hn3).mono ?_
  rintro e w3 ⟨rfl, hm3, hi3⟩
  have HM3 := Lib.hid hm3
  have HI3 := Lib.hid hi3
  have s3 := Lib.hid hm3.size
  clear hm3 hi3
  go_wp2
  go_ret
  have e1 := s1.out
  have e2 := s2.out
  have e3 := s3.out
  simp only [World.size_alloc] at e1
  refine ⟨rfl, ⟨(HM3.out.1.trans HM2.out.1).trans HM1.out.1, (HM3.out.2.1.trans HM2.out.2.1).trans HM1.out.2.1, (HM3.out.2.2.1.trans HM2.out.2.2.1).trans HM1.out.2.2.1, by omega, fun b hb hx hy hz hu => ?_, fun b o hb hx hy hz hu => ?_⟩, (HI1.out.mark HM2.out hap1).mark HM3.out hap3, (HI1'.out.mark HM2.out hap2).mark HM3.out hap4, HI2.out.mark HM3.out hap5, HI3.out⟩
  · exact ((HM3.out.2.2.2.2.1 b hu).trans ((HM2.out.2.2.2.2.1 b hz).trans (HM1.out.2.2.2.2.1 b (by simp; omega) hx hy))).trans (Below.heap_alloc w _ b hb)
  · exact (((SameAt.of_block (Below.heap_alloc w _ b hb)).trans (HM1.out.2.2.2.2.2 b o (by simp; omega) hx hy)).trans (HM2.out.2.2.2.2.2 b o hz)).trans (HM3.out.2.2.2.2.2 b o hu)
set_option maxHeartbeats 2000000 in
theorem heldBoth_any {A A' A2 A3 : Option Addr} {n c n' c' n2 c2 n3 c3 : Nat} {p q z k : Int} {w : World} {L L' B B' M C U V : Nat} (h : Ints w L B A n (seqI k n)) (h' : Ints w L' B' A' n' (seqI (k + (n : Int)) n')) (g : Ints w M C A2 n2 (seqI (k + (n : Int) + (n' : Int)) n2)) (j : Ints w U V A3 n3 (seqI (k + (n : Int) + (n' : Int) + (n2 : Int)) n3)) (hB : B ≤ w.heap.size) (hB' : B' ≤ w.heap.size) (hC : C ≤ w.heap.size) (hV : V ≤ w.heap.size)
    (hk : 0 ≤ k) (hk2 : k ≤ 10000000) (hn : n ≤ 1048576) (hn' : n' ≤ 1048576) (hn2 : n2 ≤ 1048576) (hn3 : n3 ≤ 1048576) :
    Calls Tryd.prog 37 #[.agg #[.slice (A) n c, .int .i64 (p), .slice (A') n' c', .int .i64 (q), .slice (A2) n2 c2, .slice (A3) n3 c3, .int .i64 (z)], .int .i64 k] w fun e w' => e = .returned (.int .i64 (k + (n : Int) + (n' : Int) + (n2 : Int) + (n3 : Int))) ∧ Below w.heap.size w w' := by
  have H1 := Lib.hid (h.alloc hB (.cells #[.slice (A) n c, .int .i64 (p), .slice (A') n' c', .int .i64 (q), .slice (A2) n2 c2, .slice (A3) n3 c3, .int .i64 (z)] 51))
  have H2 := Lib.hid (h'.alloc hB' (.cells #[.slice (A) n c, .int .i64 (p), .slice (A') n' c', .int .i64 (q), .slice (A2) n2 c2, .slice (A3) n3 c3, .int .i64 (z)] 51))
  have H3 := Lib.hid (g.alloc hC (.cells #[.slice (A) n c, .int .i64 (p), .slice (A') n' c', .int .i64 (q), .slice (A2) n2 c2, .slice (A3) n3 c3, .int .i64 (z)] 51))
  have H4 := Lib.hid (j.alloc hV (.cells #[.slice (A) n c, .int .i64 (p), .slice (A') n' c', .int .i64 (q), .slice (A2) n2 c2, .slice (A3) n3 c3, .int .i64 (z)] 51))
  have X0 := Lib.hid (Box.new w 51 [.slice (A) n c, .int .i64 (p), .slice (A') n' c', .int .i64 (q), .slice (A2) n2 c2, .slice (A3) n3 c3, .int .i64 (z)])
  go_enter Tryd.func37, Tryd.ntmps37
  go_wp2_with fail
  refine (heldDevice_any H1.out H2.out (by first | omega | (simp; omega) | (simp; done)) (by first | omega | (simp; omega) | (simp; done)) hk (by omega) hn hn').mono ?_
  rintro e w1 ⟨rfl, hb⟩
  (try simp only [World.size_alloc, World.size_setCell, World.size_drew] at hb)
  have X1 := Lib.hid (X0.out.below hb (by omega))
  have I3 := Lib.hid (H3.out.below hb (by first | omega | (simp; omega) | (simp; done)))
  have I4 := Lib.hid (H4.out.below hb (by first | omega | (simp; omega) | (simp; done)))
  have HB := Lib.hid hb
  clear hb
  have x0 := (X1.out.2 0 _ rfl).1; have x1 := (X1.out.2 1 _ rfl).1; have x2 := (X1.out.2 2 _ rfl).1; have x3 := (X1.out.2 3 _ rfl).1; have x4 := (X1.out.2 4 _ rfl).1; have x5 := (X1.out.2 5 _ rfl).1; have x6 := (X1.out.2 6 _ rfl).1
  go_wp2_with fail
  refine (heldIntS_any I3.out (by omega) (by omega) hn2).mono ?_
  rintro e w2 ⟨rfl, rfl⟩
  go_wp2_with fail
  refine (heldIntS_any I4.out (by omega) (by omega) hn3).mono ?_
  rintro e w3 ⟨rfl, rfl⟩
  go_wp2
  go_ret
  exact ⟨rfl, below_step HB.out (by go_grown) (by omega)⟩
end Go.Proofs.YtphkkalkajleiaaDoor
