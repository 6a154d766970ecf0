/- An act by the exact laws' own helpers: its size, its copy, its comparison; an act among a law's arguments. -/
import Derived.Test.YtdiebkaedjlckaaL6
import Derived.Deep.Cut
namespace Go.Proofs.Ytdiebkaedjlckaa
open Go.ChangeShapes Go.WideShapes Go.ChangeAt Go.RowKit
set_option maxRecDepth 10000
set_option linter.unusedSimpArgs false
set_option linter.unusedVariables false

set_option maxHeartbeats 1000000 in
theorem szAct_any {A : Option Addr} {n c : Nat} {K N H left : Int} {w : World} (hn : n ≤ 9223372036854775807) (h0 : 0 ≤ left) (h1 : left ≤ 1048576) :
    Calls Try.prog 26 #[.agg #[.int .i64 (K), .int .i64 (N), .int .i64 (H), .slice (A) n c], .int .i64 left] w (SzPost left n w) := by
  go_enter Try.func26, Try.ntmps26
  go_wp2_with (go_at_call 64; refine (szIntS_any (by omega) (by omega) (by omega)).mono ?_; rintro e w' ⟨r1, rfl, hr1, rfl⟩)
  all_goals
    go_ret
    exact ⟨_, rfl, by omega, by go_grown⟩
/-- A walk goes on in a world of which only F is known. -/
theorem wp_renameA {P : Program} {c : Code} {K : Exit → Act → World → Prop} {a : Act} {W : World} (F : World → Prop) (hF : F W) (h : ∀ w2, F w2 → Code.wp P c K a w2) : Code.wp P c K a W := h W hF
/-- An act in new memory. -/
def ActPost (K N H : Int) (D : List Int) (w : World) (e : Ending) (w' : World) : Prop :=
  ∃ A n c, e = .returned (.agg #[.int .i64 (K), .int .i64 (N), .int .i64 (H), .slice (A) n c]) ∧ n ≤ c ∧ Below w.heap.size w w' ∧ Ints w' w.heap.size w'.heap.size A n D ∧ okInt K
theorem arg_act {H : Type} {enc : TypeId × Value → H} {W : World} {base : Nat} {v : Value} {d : DataW H} {p0 : List MemPlace} (hval : Value.okWide Try.prog W .any base 53 v) (h : DataW.Trod enc Try.prog W 0 (fun _ => true) true 53 v d p0)
    (hlt : ∀ p ∈ p0, p.block < W.heap.size) (hfz : ∀ b off, MemPlace.cell b off ∈ p0 → W.frozen? ⟨b, off, none⟩ = false) :
    ∃ K N Z A n c D, v = .agg #[.int .i64 (K), .int .i64 (N), .int .i64 (Z), .slice (A) n c] ∧ Ints W 0 W.heap.size A n D ∧ okInt K ∧ okInt N ∧ okInt Z := by
  obtain ⟨v0, v1, v2, v3, y0, y1, y2, y3, n0, rfl, _, rfl, h0, h1, h2, h3⟩ := Go.Joins.open_agg4 (P := Try.prog) Try.underlying53 (by kernel_rfl) (by kernel_rfl) hval h
  obtain ⟨K, rfl, hK⟩ := arg_int Try.underlying3 h0
  obtain ⟨N, rfl, hN⟩ := arg_int Try.underlying3 h1
  obtain ⟨Z, rfl, hZ⟩ := arg_int Try.underlying3 h2
  obtain ⟨A, n, c, D, rfl, _, _, hD⟩ := arg_ints Try.underlying23 Try.underlying3 cellsInt h3 (fun p hp => hlt p (by simp [hp])) (fun b o hp => hfz b o (by simp [hp]))
  exact ⟨K, N, Z, A, n, c, D, rfl, hD, hK, hN, hZ⟩

set_option maxHeartbeats 2000000 in
theorem toAct_any {A : Option Addr} {n c : Nat} {D : List Int} {K N H : Int} {w : World} {L B : Nat} (h : Ints w L B A n D) (hB : B ≤ w.heap.size) (hn : n ≤ 1048576) (hK : okInt K) (hN : okInt N) (hH : okInt H) :
    Calls Try.prog 28 #[.agg #[.int .i64 (K), .int .i64 (N), .int .i64 (H), .slice (A) n c]] w (ActPost K N H D w) := by
  have H1 : Hid (Ints (((w.alloc (.cells #[.int .i64 (K), .int .i64 (N), .int .i64 (H), .slice (A) n c] 53)).alloc (.cells #[.int .i64 0, .int .i64 0, .int .i64 0, .slice none 0 0] 56)).alloc (.cells #[.int .i64 0, .int .i64 0, .int .i64 0, .slice none 0 0] 56)) L B A n D) := ((h.alloc hB _).alloc (by first | omega | (simp; omega) | (simp; done)) _).alloc (by first | omega | (simp; omega) | (simp; done)) _
  have X0 : Hid (Box (((w.alloc (.cells #[.int .i64 (K), .int .i64 (N), .int .i64 (H), .slice (A) n c] 53)).alloc (.cells #[.int .i64 0, .int .i64 0, .int .i64 0, .slice none 0 0] 56)).alloc (.cells #[.int .i64 0, .int .i64 0, .int .i64 0, .slice none 0 0] 56)) w.heap.size [.int .i64 (K), .int .i64 (N), .int .i64 (H), .slice (A) n c]) := ((Box.new w 53 [.int .i64 (K), .int .i64 (N), .int .i64 (H), .slice (A) n c]).alloc _).alloc _
  have R0 : Hid (Box (((w.alloc (.cells #[.int .i64 (K), .int .i64 (N), .int .i64 (H), .slice (A) n c] 53)).alloc (.cells #[.int .i64 0, .int .i64 0, .int .i64 0, .slice none 0 0] 56)).alloc (.cells #[.int .i64 0, .int .i64 0, .int .i64 0, .slice none 0 0] 56)) (w.heap.size + 1) [.int .i64 0, .int .i64 0, .int .i64 0, .slice none 0 0]) := by
    have hx := (Box.new (w.alloc (.cells #[.int .i64 (K), .int .i64 (N), .int .i64 (H), .slice (A) n c] 53)) 56 [.int .i64 0, .int .i64 0, .int .i64 0, .slice none 0 0]).alloc (.cells #[.int .i64 0, .int .i64 0, .int .i64 0, .slice none 0 0] 56)
    rw [World.size_alloc] at hx
    exact hx
  have O0 : Hid (Box (((w.alloc (.cells #[.int .i64 (K), .int .i64 (N), .int .i64 (H), .slice (A) n c] 53)).alloc (.cells #[.int .i64 0, .int .i64 0, .int .i64 0, .slice none 0 0] 56)).alloc (.cells #[.int .i64 0, .int .i64 0, .int .i64 0, .slice none 0 0] 56)) (w.heap.size + 1 + 1) [.int .i64 0, .int .i64 0, .int .i64 0, .slice none 0 0]) := by
    have hx := Box.new ((w.alloc (.cells #[.int .i64 (K), .int .i64 (N), .int .i64 (H), .slice (A) n c] 53)).alloc (.cells #[.int .i64 0, .int .i64 0, .int .i64 0, .slice none 0 0] 56)) 56 [.int .i64 0, .int .i64 0, .int .i64 0, .slice none 0 0]
    rw [World.size_alloc, World.size_alloc] at hx
    exact hx
  have E0 : Hid (Below w.heap.size w (((w.alloc (.cells #[.int .i64 (K), .int .i64 (N), .int .i64 (H), .slice (A) n c] 53)).alloc (.cells #[.int .i64 0, .int .i64 0, .int .i64 0, .slice none 0 0] 56)).alloc (.cells #[.int .i64 0, .int .i64 0, .int .i64 0, .slice none 0 0] 56))) := (by go_grown : Below w.heap.size w _)
  have s0 : ((((w.alloc (.cells #[.int .i64 (K), .int .i64 (N), .int .i64 (H), .slice (A) n c] 53)).alloc (.cells #[.int .i64 0, .int .i64 0, .int .i64 0, .slice none 0 0] 56)).alloc (.cells #[.int .i64 0, .int .i64 0, .int .i64 0, .slice none 0 0] 56))).heap.size = w.heap.size + 3 := by simp
  clear h
  go_enter Try.func28, Try.ntmps28
  go_upto_region 2 with (fail)
  refine wp_renameA (fun w0 => Hid (Ints w0 L B A n D) ∧ Hid (Box w0 w.heap.size [.int .i64 (K), .int .i64 (N), .int .i64 (H), .slice (A) n c]) ∧ Hid (Box w0 (w.heap.size + 1) [.int .i64 0, .int .i64 0, .int .i64 0, .slice none 0 0]) ∧ Hid (Box w0 (w.heap.size + 1 + 1) [.int .i64 0, .int .i64 0, .int .i64 0, .slice none 0 0]) ∧ Hid (Below w.heap.size w w0) ∧ w0.heap.size = w.heap.size + 3) ⟨H1, X0, R0, O0, E0, s0⟩ ?_
  clear H1 X0 R0 O0 E0 s0
  rintro w0 ⟨H1, X0, R0, O0, E0, s0⟩
  have x0 := (X0.out.2 0 _ rfl).1; have x1 := (X0.out.2 1 _ rfl).1; have x2 := (X0.out.2 2 _ rfl).1; have x3 := (X0.out.2 3 _ rfl).1
  have o0 := (O0.out.2 0 _ rfl).1; have o1 := (O0.out.2 1 _ rfl).1; have o2 := (O0.out.2 2 _ rfl).1; have o3 := (O0.out.2 3 _ rfl).1
  have f0 := (O0.out.2 0 _ rfl).2; have f1 := (O0.out.2 1 _ rfl).2; have f2 := (O0.out.2 2 _ rfl).2; have f3 := (O0.out.2 3 _ rfl).2
  have s0' : w.heap.size + 3 ≤ w0.heap.size := by omega
  clear s0
  go_upto_region 5 with (fail)
  have O1 : Hid (Box (((w0.setCell ⟨w.heap.size + 1 + 1, 0, none⟩ (.int .i64 K)).setCell ⟨w.heap.size + 1 + 1, 1, none⟩ (.int .i64 N)).setCell ⟨w.heap.size + 1 + 1, 2, none⟩ (.int .i64 H)) (w.heap.size + 1 + 1) [.int .i64 (K), .int .i64 (N), .int .i64 (H), .slice (none) 0 0]) := by
    have hx := ((O0.out.put (i := 0) (by simp) (.int .i64 K)).put (i := 1) (by simp) (.int .i64 N)).put (i := 2) (by simp) (.int .i64 H)
    show Box _ _ _
    simpa using hx
  refine wp_renameA (fun w1 => Hid (Ints w1 L B A n D) ∧ Hid (Box w1 w.heap.size [.int .i64 (K), .int .i64 (N), .int .i64 (H), .slice (A) n c]) ∧ Hid (Box w1 (w.heap.size + 1) [.int .i64 0, .int .i64 0, .int .i64 0, .slice none 0 0]) ∧ Hid (Box w1 (w.heap.size + 1 + 1) [.int .i64 (K), .int .i64 (N), .int .i64 (H), .slice (none) 0 0]) ∧ Hid (Below w.heap.size w w1) ∧ w.heap.size + 3 ≤ w1.heap.size) ⟨?_, ?_, ?_, O1, ?_, by simp only [World.size_setCell]; omega⟩ ?_
  · show Ints _ _ _ _ _ _
    (repeat (with_reducible refine Ints.set_ ?_ (by omega) _))
    exact H1.out
  · show Box _ _ _
    (repeat (with_reducible refine Box.set_ ?_ (by omega) _))
    exact X0.out
  · show Box _ _ _
    (repeat (with_reducible refine Box.set_ ?_ (by omega) _))
    exact R0.out
  · show Below _ _ _
    (repeat (with_reducible refine below_set ?_ (by omega) _))
    exact E0.out
  clear O1
  clear x0 x1 x2 x3
  clear o0 o1 o2 o3
  clear f0 f1 f2 f3
  clear H1 X0 R0 O0 E0 s0'
  rintro w1 ⟨H1, X0, R0, O0, E0, s0⟩
  have x0 := (X0.out.2 0 _ rfl).1; have x1 := (X0.out.2 1 _ rfl).1; have x2 := (X0.out.2 2 _ rfl).1; have x3 := (X0.out.2 3 _ rfl).1
  go_wp2_with fail
  clear x0 x1 x2 x3
  refine (toIntS_b H1.out (by omega) hn).mono ?_
  rintro e w2 ⟨A1, c1, rfl, hc1, hb1, hi1⟩
  have s1 := hb1.size
  have R1 := Lib.hid (R0.out.below hb1 (by omega))
  have O1 := Lib.hid (O0.out.below hb1 (by omega))
  have E1 := Lib.hid (below_step hb1 E0.out (by omega))
  have HI := Lib.hid hi1
  clear hb1 hi1 X0 R0 O0 E0 H1
  have o0 := (O1.out.2 0 _ rfl).1; have o1 := (O1.out.2 1 _ rfl).1; have o2 := (O1.out.2 2 _ rfl).1; have o3 := (O1.out.2 3 _ rfl).1
  have f0 := (O1.out.2 0 _ rfl).2; have f1 := (O1.out.2 1 _ rfl).2; have f2 := (O1.out.2 2 _ rfl).2; have f3 := (O1.out.2 3 _ rfl).2
  have r0 := (R1.out.2 0 _ rfl).1; have r1 := (R1.out.2 1 _ rfl).1; have r2 := (R1.out.2 2 _ rfl).1; have r3 := (R1.out.2 3 _ rfl).1
  have g0 := (R1.out.2 0 _ rfl).2; have g1 := (R1.out.2 1 _ rfl).2; have g2 := (R1.out.2 2 _ rfl).2; have g3 := (R1.out.2 3 _ rfl).2
  go_wp2
  refine bodyPost_ret (v := .agg #[.int .i64 (K), .int .i64 (N), .int .i64 (H), .slice (A1) n c1]) (by simp [results, Try.results28, go_sem, o0, o1, o2, o3, f0, f1, f2, f3, r0, r1, r2, r3, g0, g1, g2, g3]) rfl ?_
  refine ⟨_, _, _, rfl, hc1, ?_, ?_, hK⟩
  · (repeat (with_reducible refine below_set ?_ (by omega) _))
    exact E1.out
  · simp only [World.size_setCell]
    refine Ints.more (lo := w1.heap.size) (hi := w2.heap.size) ?_ (by omega) (by omega)
    (repeat (with_reducible refine Ints.set_ ?_ (by omega) _))
    exact HI.out

set_option maxHeartbeats 2000000 in
theorem eqAct_same {A X : Option Addr} {n c k d : Nat} {D : List Int} {K N H : Int} {w : World} {L B U V : Nat}
    (h : Ints w L B A n D) (i : Ints w U V X k D) (hB : B ≤ w.heap.size) (hV : V ≤ w.heap.size) :
    Calls Try.prog 30 #[.agg #[.int .i64 (K), .int .i64 (N), .int .i64 (H), .slice (A) n c], .agg #[.int .i64 (K), .int .i64 (N), .int .i64 (H), .slice (X) k d]] w (BoolB true w) := by
  have H1 := Lib.hid ((h.alloc hB (.cells #[.int .i64 (K), .int .i64 (N), .int .i64 (H), .slice (A) n c] 56)).alloc (by first | omega | (simp; omega) | (simp; done)) (.cells #[.int .i64 (K), .int .i64 (N), .int .i64 (H), .slice (X) k d] 56))
  have I1 := Lib.hid ((i.alloc hV (.cells #[.int .i64 (K), .int .i64 (N), .int .i64 (H), .slice (A) n c] 56)).alloc (by first | omega | (simp; omega) | (simp; done)) (.cells #[.int .i64 (K), .int .i64 (N), .int .i64 (H), .slice (X) k d] 56))
  have X0 := Lib.hid ((Box.new w 56 [.int .i64 (K), .int .i64 (N), .int .i64 (H), .slice (A) n c]).alloc (.cells #[.int .i64 (K), .int .i64 (N), .int .i64 (H), .slice (X) k d] 56))
  have Y0 := Lib.hid (Box.new (w.alloc (.cells #[.int .i64 (K), .int .i64 (N), .int .i64 (H), .slice (A) n c] 56)) 56 [.int .i64 (K), .int .i64 (N), .int .i64 (H), .slice (X) k d])
  (try simp only [World.size_alloc, World.size_setCell, World.size_drew] at Y0)
  clear h i
  go_enter Try.func30, Try.ntmps30
  go_wp2_with fail
  refine (eqIntS_same H1.out I1.out).mono ?_
  rintro e w1 ⟨rfl, hb⟩
  (try simp only [World.size_alloc, World.size_setCell, World.size_drew] at hb)
  have E1 : Hid (Below w.heap.size w w1) := below_step hb (by go_grown) (by omega)
  clear hb X0 Y0 H1 I1
  go_wp2
  go_ret
  exact ⟨rfl, E1.out⟩
end Go.Proofs.Ytdiebkaedjlckaa
