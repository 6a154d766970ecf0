/- Readers by the laws' own helpers: compared; what is ahead of a reader; answers of numbers that are named. -/
import Derived.Test.YtmjmplfhedknhaaG1
import Derived.Test.YtmjmplfhedknhaaO6
import Derived.Test.YtmjmplfhedknhaaS1f
import Derived.Deep.RegionHeld3
namespace Go.Proofs.Ytmjmplfhedknhaa
open Go.ChangeShapes Go.WideShapes Go.ChangeAt Go.RowKit
set_option linter.unusedSimpArgs false
set_option linter.unusedVariables false
set_option maxRecDepth 10000

/-- A walk goes on in a world of which only F is known. -/
theorem wp_renameG {P : Program} {c : Code} {K : Exit → Act → World → Prop} {a : Act} {W : World} (F : World → Prop) (hF : F W) (h : ∀ w2, F w2 → Code.wp P c K a w2) : Code.wp P c K a W := h W hF
theorem Ints.cutIf {w : World} {lo hi n a c : Nat} {A : Option Addr} {xs : List Int} (h : Ints w lo hi A n xs) (ha : a ≤ n) (hc : n ≤ c) : Ints w lo hi (if c = a then A else A.map fun x => x.add a) (n - a) (xs.drop a) := by
  split
  · exact h.dropped (by omega) A
  · exact h.drop ha
theorem Ints.gone1 {w : World} {lo hi n a : Nat} {A : Option Addr} {xs : List Int} (h : Ints w lo hi A n xs) (hz : n ≤ a) (A' : Option Addr) : Ints w lo hi A' 0 (xs.drop a) := by
  have g := h.dropped hz A'
  rw [Nat.sub_eq_zero_of_le hz] at g
  exact g
/-- A reader of numbers that are named, bytes and an int. -/
def PostRLI (D : List Int) (p : Int) (S : List Int) (q : Int) (R : List Int) (z : Int) (L : List Int) (y : Int) (w : World) (e : Ending) (w' : World) : Prop :=
  ∃ A n c A' n' c' A2 n2 c2 A1 n1 c1, e = .returned (.tuple #[.agg #[.slice (A) n c, .int .i64 (p), .slice (A') n' c', .int .i64 (q), .slice (A2) n2 c2, .int .i64 (z)], .slice A1 n1 c1, .int .i64 y]) ∧ (n ≤ c ∧ n' ≤ c' ∧ n2 ≤ c2 ∧ n1 ≤ c1) ∧ Below w.heap.size w w' ∧
    Ints w' w.heap.size w'.heap.size A n D ∧ Ints w' w.heap.size w'.heap.size A' n' S ∧ Ints w' w.heap.size w'.heap.size A2 n2 R ∧ Ints w' w.heap.size w'.heap.size A1 n1 L
theorem to_rli {f : Nat} {args : Array Value} {w : World} {o : Rv × List Int × Int} {D S R L : List Int} {p q z y : Int} (h : Calls Try.prog f args w (Post3R o w)) (e : o = (⟨D, p, S, q, R, z⟩, L, y)) : Calls Try.prog f args w (PostRLI D p S q R z L y w) := by
  subst e
  exact h.mono fun e w' hh => by
    obtain ⟨A, n, c, A', n', c', A2, n2, c2, A1, n1, c1, he, hc, hb, ⟨⟨hd, hd', _, _, _⟩, hr, _, _, _⟩, hl, _⟩ := hh
    exact ⟨A, n, c, A', n', c', A2, n2, c2, A1, n1, c1, he, hc, hb, hd, hd', hr, hl⟩
theorem to_boolN {f : Nat} {args : Array Value} {w : World} {a b : Bool} (h : Calls Try.prog f args w (BoolB a w)) (e : a = b) : Calls Try.prog f args w (BoolB b w) := e ▸ h
theorem to_intN {f : Nat} {args : Array Value} {w : World} {a b : Int} (h : Calls Try.prog f args w (IntB a w)) (e : a = b) : Calls Try.prog f args w (IntB b w) := e ▸ h
theorem to_listN {f : Nat} {args : Array Value} {w : World} {a b : List Int} (h : Calls Try.prog f args w (ListPost a w)) (e : a = b) : Calls Try.prog f args w (ListPost b w) := e ▸ h
theorem BoolQ.b {f : Nat} {args : Array Value} {w : World} {b : Bool} (h : Calls Try.prog f args w (BoolQ b w)) : Calls Try.prog f args w (BoolB b w) :=
  h.mono fun e w' hh => by
    obtain ⟨rfl, m, rfl⟩ := hh
    exact ⟨rfl, below_drewN (Below.refl _ _) m⟩

set_option maxHeartbeats 2000000 in
theorem equalReader_same {A A' A2 X X' X2 : Option Addr} {n c n' c' n2 c2 k d k' d' k2 d2 : Nat} {D S R : List Int} {p q z : Int} {w : World} {L B L' B' M C U V U' V' Y Z : Nat}
    (h : Ints w L B A n D) (h' : Ints w L' B' A' n' S) (g : Ints w M C A2 n2 R) (i : Ints w U V X k D) (i' : Ints w U' V' X' k' S) (j : Ints w Y Z X2 k2 R)
    (hB : B ≤ w.heap.size) (hB' : B' ≤ w.heap.size) (hC : C ≤ w.heap.size) (hV : V ≤ w.heap.size) (hV' : V' ≤ w.heap.size) (hZ : Z ≤ w.heap.size) :
    Calls Try.prog 12 #[.agg #[.slice (A) n c, .int .i64 (p), .slice (A') n' c', .int .i64 (q), .slice (A2) n2 c2, .int .i64 (z)], .agg #[.slice (X) k d, .int .i64 (p), .slice (X') k' d', .int .i64 (q), .slice (X2) k2 d2, .int .i64 (z)]] w (BoolB true w) := by
  have H1 := Lib.hid ((h.alloc hB (.cells #[.slice (A) n c, .int .i64 (p), .slice (A') n' c', .int .i64 (q), .slice (A2) n2 c2, .int .i64 (z)] 27)).alloc (by first | omega | (simp; omega) | (simp; done)) (.cells #[.slice (X) k d, .int .i64 (p), .slice (X') k' d', .int .i64 (q), .slice (X2) k2 d2, .int .i64 (z)] 27))
  have H2 := Lib.hid ((h'.alloc hB' (.cells #[.slice (A) n c, .int .i64 (p), .slice (A') n' c', .int .i64 (q), .slice (A2) n2 c2, .int .i64 (z)] 27)).alloc (by first | omega | (simp; omega) | (simp; done)) (.cells #[.slice (X) k d, .int .i64 (p), .slice (X') k' d', .int .i64 (q), .slice (X2) k2 d2, .int .i64 (z)] 27))
  have H3 := Lib.hid ((g.alloc hC (.cells #[.slice (A) n c, .int .i64 (p), .slice (A') n' c', .int .i64 (q), .slice (A2) n2 c2, .int .i64 (z)] 27)).alloc (by first | omega | (simp; omega) | (simp; done)) (.cells #[.slice (X) k d, .int .i64 (p), .slice (X') k' d', .int .i64 (q), .slice (X2) k2 d2, .int .i64 (z)] 27))
  have I1 := Lib.hid ((i.alloc hV (.cells #[.slice (A) n c, .int .i64 (p), .slice (A') n' c', .int .i64 (q), .slice (A2) n2 c2, .int .i64 (z)] 27)).alloc (by first | omega | (simp; omega) | (simp; done)) (.cells #[.slice (X) k d, .int .i64 (p), .slice (X') k' d', .int .i64 (q), .slice (X2) k2 d2, .int .i64 (z)] 27))
  have I2 := Lib.hid ((i'.alloc hV' (.cells #[.slice (A) n c, .int .i64 (p), .slice (A') n' c', .int .i64 (q), .slice (A2) n2 c2, .int .i64 (z)] 27)).alloc (by first | omega | (simp; omega) | (simp; done)) (.cells #[.slice (X) k d, .int .i64 (p), .slice (X') k' d', .int .i64 (q), .slice (X2) k2 d2, .int .i64 (z)] 27))
  have I3 := Lib.hid ((j.alloc hZ (.cells #[.slice (A) n c, .int .i64 (p), .slice (A') n' c', .int .i64 (q), .slice (A2) n2 c2, .int .i64 (z)] 27)).alloc (by first | omega | (simp; omega) | (simp; done)) (.cells #[.slice (X) k d, .int .i64 (p), .slice (X') k' d', .int .i64 (q), .slice (X2) k2 d2, .int .i64 (z)] 27))
  have X0 := Lib.hid ((Box.new w 27 [.slice (A) n c, .int .i64 (p), .slice (A') n' c', .int .i64 (q), .slice (A2) n2 c2, .int .i64 (z)]).alloc (.cells #[.slice (X) k d, .int .i64 (p), .slice (X') k' d', .int .i64 (q), .slice (X2) k2 d2, .int .i64 (z)] 27))
  have Y0 := Lib.hid (Box.new (w.alloc (.cells #[.slice (A) n c, .int .i64 (p), .slice (A') n' c', .int .i64 (q), .slice (A2) n2 c2, .int .i64 (z)] 27)) 27 [.slice (X) k d, .int .i64 (p), .slice (X') k' d', .int .i64 (q), .slice (X2) k2 d2, .int .i64 (z)])
  (try simp only [World.size_alloc, World.size_setCell, World.size_drew] at Y0)
  clear h h' g i i' j
  go_enter Try.func12, Try.ntmps12
  go_wp2_with fail
  refine (equalDevice_same H1.out H2.out I1.out I2.out (by first | omega | (simp; omega) | (simp; done)) (by first | omega | (simp; omega) | (simp; done)) (by first | omega | (simp; omega) | (simp; done)) (by first | omega | (simp; omega) | (simp; done))).mono ?_
  rintro e w1 ⟨rfl, hb⟩
  (try simp only [World.size_alloc, World.size_setCell, World.size_drew] at hb)
  have X1 := Lib.hid (X0.out.below hb (by omega))
  have Y1 := Lib.hid (Y0.out.below hb (by omega))
  have J1 := Lib.hid (H3.out.below hb (by first | omega | (simp; omega) | (simp; done)))
  have J2 := Lib.hid (I3.out.below hb (by first | omega | (simp; omega) | (simp; done)))
  have E1 : Hid (Below w.heap.size w w1) := below_step hb (by go_grown) (by omega)
  have s1 := hb.size
  (try simp only [World.size_alloc, World.size_setCell, World.size_drew] at s1)
  clear hb X0 Y0 H1 H2 H3 I1 I2 I3
  have x0 := (X1.out.2 0 _ rfl).1; have x1 := (X1.out.2 1 _ rfl).1; have x2 := (X1.out.2 2 _ rfl).1; have x3 := (X1.out.2 3 _ rfl).1; have x4 := (X1.out.2 4 _ rfl).1; have x5 := (X1.out.2 5 _ rfl).1
  have y0 := (Y1.out.2 0 _ rfl).1; have y1 := (Y1.out.2 1 _ rfl).1; have y2 := (Y1.out.2 2 _ rfl).1; have y3 := (Y1.out.2 3 _ rfl).1; have y4 := (Y1.out.2 4 _ rfl).1; have y5 := (Y1.out.2 5 _ rfl).1
  go_wp2_with fail
  refine (equalInts_same J1.out J2.out rfl).mono ?_
  rintro e w2 ⟨rfl, hb⟩
  have X2 := Lib.hid (X1.out.below hb (by omega))
  have Y2 := Lib.hid (Y1.out.below hb (by omega))
  have HB := Lib.hid hb
  clear hb
  have x0 := (X2.out.2 0 _ rfl).1; have x1 := (X2.out.2 1 _ rfl).1; have x2 := (X2.out.2 2 _ rfl).1; have x3 := (X2.out.2 3 _ rfl).1; have x4 := (X2.out.2 4 _ rfl).1; have x5 := (X2.out.2 5 _ rfl).1
  have y0 := (Y2.out.2 0 _ rfl).1; have y1 := (Y2.out.2 1 _ rfl).1; have y2 := (Y2.out.2 2 _ rfl).1; have y3 := (Y2.out.2 3 _ rfl).1; have y4 := (Y2.out.2 4 _ rfl).1; have y5 := (Y2.out.2 5 _ rfl).1
  go_wp2
  go_ret
  exact ⟨rfl, below_step HB.out E1.out (by omega)⟩

set_option maxHeartbeats 2000000 in
theorem ahead_any {A A' A2 : Option Addr} {n c n' c' n2 c2 : Nat} {D S R : List Int} {p q z : Int} {w : World} {L L' B B' M C : Nat} (h : Ints w L B A n D) (h' : Ints w L' B' A' n' S) (g : Ints w M C A2 n2 R) (hB : B ≤ w.heap.size) (hB' : B' ≤ w.heap.size) (hC : C ≤ w.heap.size) (hnc : n ≤ c) (hn2 : n2 ≤ 1048576) :
    Calls Try.prog 15 #[.agg #[.slice (A) n c, .int .i64 (p), .slice (A') n' c', .int .i64 (q), .slice (A2) n2 c2, .int .i64 (z)]] w (ListPost (R ++ restL D p S q) w) := by
  have H1 := Lib.hid (h.alloc hB (.cells #[.slice (A) n c, .int .i64 (p), .slice (A') n' c', .int .i64 (q), .slice (A2) n2 c2, .int .i64 (z)] 27))
  have H2 := Lib.hid (h'.alloc hB' (.cells #[.slice (A) n c, .int .i64 (p), .slice (A') n' c', .int .i64 (q), .slice (A2) n2 c2, .int .i64 (z)] 27))
  have G1 := Lib.hid (g.alloc hC (.cells #[.slice (A) n c, .int .i64 (p), .slice (A') n' c', .int .i64 (q), .slice (A2) n2 c2, .int .i64 (z)] 27))
  have X0 := Lib.hid (Box.new w 27 [.slice (A) n c, .int .i64 (p), .slice (A') n' c', .int .i64 (q), .slice (A2) n2 c2, .int .i64 (z)])
  have E0 : Hid (Below w.heap.size w (w.alloc (.cells #[.slice (A) n c, .int .i64 (p), .slice (A') n' c', .int .i64 (q), .slice (A2) n2 c2, .int .i64 (z)] 27))) := (by go_grown : Below w.heap.size w (w.alloc _))
  have s0 : w.heap.size < (w.alloc (.cells #[.slice (A) n c, .int .i64 (p), .slice (A') n' c', .int .i64 (q), .slice (A2) n2 c2, .int .i64 (z)] 27)).heap.size := by simp
  have HRL := Lib.hid (restL_le D p S q)
  clear h h' g
  go_enter Try.func15, Try.ntmps15
  go_upto_region 1 with (fail)
  refine wp_renameG (fun w0 => Hid (Ints w0 L B A n D) ∧ Hid (Ints w0 L' B' A' n' S) ∧ Hid (Ints w0 M C A2 n2 R) ∧ Hid (Box w0 w.heap.size [.slice (A) n c, .int .i64 (p), .slice (A') n' c', .int .i64 (q), .slice (A2) n2 c2, .int .i64 (z)]) ∧ Hid (Below w.heap.size w w0) ∧ w.heap.size < w0.heap.size) ⟨H1, H2, G1, X0, E0, s0⟩ ?_
  clear H1 H2 G1 X0 E0 s0
  rintro w0 ⟨H1, H2, G1, X0, E0, s0⟩
  have x0 := (X0.out.2 0 _ rfl).1; have x1 := (X0.out.2 1 _ rfl).1; have x2 := (X0.out.2 2 _ rfl).1; have x3 := (X0.out.2 3 _ rfl).1; have x4 := (X0.out.2 4 _ rfl).1; have x5 := (X0.out.2 5 _ rfl).1
  go_region_held3 (fun w' => w'.cell? ⟨w.heap.size, 0, none⟩ = some (.slice A n c) ∧ w'.cell? ⟨w.heap.size, 1, none⟩ = some (.int .i64 p) ∧ w'.cell? ⟨w.heap.size, 2, none⟩ = some (.slice A' n' c') ∧ w'.cell? ⟨w.heap.size, 3, none⟩ = some (.int .i64 q) ∧ w'.cell? ⟨w.heap.size, 4, none⟩ = some (.slice A2 n2 c2) ∧ w'.cell? ⟨w.heap.size, 5, none⟩ = some (.int .i64 z)) (go_keep)
    (first | (go_at_call 48; refine (RestOf_any H1.out.drew H2.out.drew (by first | omega | (simp; omega) | (simp; done)) (by first | omega | (simp; omega) | (simp; done)) hnc).mono ?_; rintro e w1 ⟨A5, n5, c5, rfl, hc5, hb1, hi1⟩; (try simp only [World.size_alloc, World.size_setCell, World.size_drew] at hb1 hi1); have HB1 := Lib.hid hb1; have HI1 := Lib.hid hi1; have s1 := hb1.size; (try simp only [World.size_alloc, World.size_setCell, World.size_drew] at s1); have hn5 : n5 ≤ 1048576 := by { have := hi1.len; have := HRL.out; omega }; have X1 := Lib.hid (X0.out.drew.below hb1 (by omega)); have G2 := Lib.hid (G1.out.drew.below hb1 (by first | omega | (simp; omega) | (simp; done))); clear hb1 hi1; have x0 := (X1.out.2 0 _ rfl).1; have x1 := (X1.out.2 1 _ rfl).1; have x2 := (X1.out.2 2 _ rfl).1; have x3 := (X1.out.2 3 _ rfl).1; have x4 := (X1.out.2 4 _ rfl).1; have x5 := (X1.out.2 5 _ rfl).1) | (go_at_call 21; refine (join_any G2.out HI1.out (by omega) (Nat.le_refl _) hn2 hn5).mono ?_; rintro e w2 ⟨A6, n6, c6, rfl, hc6, hb2, hi2⟩; have HB2 := Lib.hid hb2; have HI2 := Lib.hid hi2; have s2 := hb2.size; have X2 := Lib.hid (X1.out.below hb2 (by omega)); clear hb2 hi2; have x0 := (X2.out.2 0 _ rfl).1; have x1 := (X2.out.2 1 _ rfl).1; have x2 := (X2.out.2 2 _ rfl).1; have x3 := (X2.out.2 3 _ rfl).1; have x4 := (X2.out.2 4 _ rfl).1; have x5 := (X2.out.2 5 _ rfl).1))
  all_goals
    go_wp2
    go_ret
    exact ⟨_, _, _, rfl, hc6, below_step HB2.out (below_step HB1.out E0.out.drew (by omega)) (by omega), HI2.out.more (by omega) (Nat.le_refl _)⟩
end Go.Proofs.Ytmjmplfhedknhaa
