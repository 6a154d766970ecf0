/- The model's seekReader and SeekReader. -/
import Derived.Test.YtmjmplfhedknhaaC2k
import Derived.Test.YtmjmplfhedknhaaS2e
import Derived.Test.YtmjmplfhedknhaaS2b
import Derived.Test.YtmjmplfhedknhaaS1h
import Derived.Deep.RegionLaw
namespace Go.Proofs.Ytmjmplfhedknhaa
open Go.ChangeShapes Go.WideShapes Go.ChangeAt Go.RowKit
set_option linter.unusedSimpArgs false
set_option linter.unusedVariables false
set_option maxRecDepth 10000

/-- What seekReader gives: the same memory but for what is read ahead, which is new. -/
def SkPost (A : Option Addr) (n c : Nat) (A' : Option Addr) (n' c' : Nat) (z p q : Int) (R : List Int) (t : Int) (w : World) (e : Ending) (w' : World) : Prop :=
  ∃ A5 n5 c5, e = .returned (.agg #[.slice (A) n c, .int .i64 (skP p R t), .slice (A') n' c', .int .i64 (q), .slice (A5) n5 c5, .int .i64 (z)]) ∧ n5 ≤ c5 ∧ Below w.heap.size w w' ∧ Ints w' w.heap.size w'.heap.size A5 n5 (skR p R t)
set_option maxHeartbeats 4000000 in
theorem sSeekReader0_any {A A' A2 : Option Addr} {n c n' c' n2 c2 : Nat} {R : List Int} {p q z t : Int} {w : World} {M C : Nat} (g : Ints w M C A2 n2 R) (hC : C ≤ w.heap.size) (hn2 : n2 ≤ c2) (hn60 : n2 ≤ 60) (hp : 0 ≤ p ∧ p ≤ 60) (ht : 0 ≤ t ∧ t ≤ 60) :
    Calls Try.prog 62 #[.agg #[.slice (A) n c, .int .i64 (p), .slice (A') n' c', .int .i64 (q), .slice (A2) n2 c2, .int .i64 (z)], .int .i64 t] w (SkPost A n c A' n' c' z p q R t w) := by
  have HG := Lib.hid g.len
  have G1 : Hid (Ints ((w.alloc (.cells #[.slice (A) n c, .int .i64 (p), .slice (A') n' c', .int .i64 (q), .slice (A2) n2 c2, .int .i64 (z)] 27)).alloc (.cells #[.slice none 0 0, .int .i64 0, .slice none 0 0, .int .i64 0, .slice none 0 0, .int .i64 0] 27)) M C A2 n2 R) := (g.alloc hC _).alloc (by first | omega | (simp; omega) | (simp; done)) _
  have X0 : Hid (Box ((w.alloc (.cells #[.slice (A) n c, .int .i64 (p), .slice (A') n' c', .int .i64 (q), .slice (A2) n2 c2, .int .i64 (z)] 27)).alloc (.cells #[.slice none 0 0, .int .i64 0, .slice none 0 0, .int .i64 0, .slice none 0 0, .int .i64 0] 27)) w.heap.size [.slice (A) n c, .int .i64 (p), .slice (A') n' c', .int .i64 (q), .slice (A2) n2 c2, .int .i64 (z)]) := (Box.new w 27 [.slice (A) n c, .int .i64 (p), .slice (A') n' c', .int .i64 (q), .slice (A2) n2 c2, .int .i64 (z)]).alloc _
  have R0 : Hid (Box ((w.alloc (.cells #[.slice (A) n c, .int .i64 (p), .slice (A') n' c', .int .i64 (q), .slice (A2) n2 c2, .int .i64 (z)] 27)).alloc (.cells #[.slice none 0 0, .int .i64 0, .slice none 0 0, .int .i64 0, .slice none 0 0, .int .i64 0] 27)) (w.heap.size + 1) [.slice none 0 0, .int .i64 0, .slice none 0 0, .int .i64 0, .slice none 0 0, .int .i64 0]) := by
    have hx := Box.new (w.alloc (.cells #[.slice (A) n c, .int .i64 (p), .slice (A') n' c', .int .i64 (q), .slice (A2) n2 c2, .int .i64 (z)] 27)) 27 [.slice none 0 0, .int .i64 0, .slice none 0 0, .int .i64 0, .slice none 0 0, .int .i64 0]
    rw [World.size_alloc] at hx
    exact hx
  have E0 : Hid (Below w.heap.size w ((w.alloc (.cells #[.slice (A) n c, .int .i64 (p), .slice (A') n' c', .int .i64 (q), .slice (A2) n2 c2, .int .i64 (z)] 27)).alloc (.cells #[.slice none 0 0, .int .i64 0, .slice none 0 0, .int .i64 0, .slice none 0 0, .int .i64 0] 27))) := (by go_grown : Below w.heap.size w _)
  have s0 : (((w.alloc (.cells #[.slice (A) n c, .int .i64 (p), .slice (A') n' c', .int .i64 (q), .slice (A2) n2 c2, .int .i64 (z)] 27)).alloc (.cells #[.slice none 0 0, .int .i64 0, .slice none 0 0, .int .i64 0, .slice none 0 0, .int .i64 0] 27))).heap.size = w.heap.size + 2 := by simp
  clear g
  go_enter Try.func62, Try.ntmps62
  go_upto_region 1 with (fail)
  refine wp_rename (fun w0 => Hid (Ints w0 M C A2 n2 R) ∧ Hid (Box w0 w.heap.size [.slice (A) n c, .int .i64 (p), .slice (A') n' c', .int .i64 (q), .slice (A2) n2 c2, .int .i64 (z)]) ∧ Hid (Box w0 (w.heap.size + 1) [.slice none 0 0, .int .i64 0, .slice none 0 0, .int .i64 0, .slice none 0 0, .int .i64 0]) ∧ Hid (Below w.heap.size w w0) ∧ w0.heap.size = w.heap.size + 2) ⟨G1, X0, R0, E0, s0⟩ ?_
  clear G1 X0 R0 E0 s0
  rintro w0 ⟨G0, X0, R0, E0, s0⟩
  have x0 := (X0.out.2 0 _ rfl).1; have x1 := (X0.out.2 1 _ rfl).1; have x2 := (X0.out.2 2 _ rfl).1; have x3 := (X0.out.2 3 _ rfl).1; have x4 := (X0.out.2 4 _ rfl).1; have x5 := (X0.out.2 5 _ rfl).1
  go_region_held3 (fun w' => w'.cell? ⟨w.heap.size, 0, none⟩ = some (.slice A n c) ∧ w'.cell? ⟨w.heap.size, 1, none⟩ = some (.int .i64 p) ∧ w'.cell? ⟨w.heap.size, 2, none⟩ = some (.slice A' n' c') ∧ w'.cell? ⟨w.heap.size, 3, none⟩ = some (.int .i64 q) ∧ w'.cell? ⟨w.heap.size, 4, none⟩ = some (.slice A2 n2 c2) ∧ w'.cell? ⟨w.heap.size, 5, none⟩ = some (.int .i64 z)) (go_keep)
    (first | (go_at_call 61; refine (sTellReader0_any (w := w0.drew) (by omega) (by omega)).mono ?_; rintro e w1 ⟨rfl, hb1⟩; (try simp only [World.size_alloc, World.size_setCell, World.size_drew] at hb1); have HB1 := Lib.hid hb1; have s1 := hb1.size; (try simp only [World.size_alloc, World.size_setCell, World.size_drew] at s1); have X1 := Lib.hid (X0.out.drew.below hb1 (by omega)); clear hb1; clear x0 x1 x2 x3 x4 x5; have x0 := (X1.out.2 0 _ rfl).1; have x1 := (X1.out.2 1 _ rfl).1; have x2 := (X1.out.2 2 _ rfl).1; have x3 := (X1.out.2 3 _ rfl).1; have x4 := (X1.out.2 4 _ rfl).1; have x5 := (X1.out.2 5 _ rfl).1) | (go_at_call 43; refine (inRange_any).mono ?_; rintro e w' ⟨rfl, rfl⟩))
  all_goals
    have R1 := Lib.hid (R0.out.drew.below HB1.out (by omega))
    have G1 := Lib.hid (G0.out.drew.below HB1.out (by omega))
    have E1 : Hid (Below w.heap.size w w1) := below_step HB1.out E0.out.drew (by omega)
    clear R0 G0 E0 HB1 X0
    cases hin : inB t (p - (n2 : Int)) p
    · have HP : Hid (skP p R t = t ∧ skR p R t = []) := by
        show _ ∧ _
        unfold skP skR skIn
        rw [← HG.out, hin]
        exact ⟨rfl, rfl⟩
      have gx := X1.out.lt
      have gr := R1.out.lt
      have f0 := (X1.out.2 0 _ rfl).2; have f1 := (X1.out.2 1 _ rfl).2; have f2 := (X1.out.2 2 _ rfl).2; have f3 := (X1.out.2 3 _ rfl).2; have f4 := (X1.out.2 4 _ rfl).2; have f5 := (X1.out.2 5 _ rfl).2
      clear hin
      go_upto_region 6 with (fail)
      clear x0 x1 x2 x3 x4 x5
      clear f0 f1 f2 f3 f4 f5
      refine wp_rename (fun w2 => Hid (Box w2 w.heap.size [.slice (A) n c, .int .i64 (t), .slice (A') n' c', .int .i64 (q), .slice (some ⟨w1.heap.size, 0, none⟩) 0 0, .int .i64 (z)]) ∧ Hid (Box w2 (w.heap.size + 1) [.slice none 0 0, .int .i64 0, .slice none 0 0, .int .i64 0, .slice none 0 0, .int .i64 0]) ∧ Hid (Below w.heap.size w w2) ∧ w1.heap.size ≤ w2.heap.size) ⟨?_, ?_, ?_, ?_⟩ ?_
      · have hx := ((X1.out.put (i := 4) (by simp) (.slice (some ⟨w1.heap.size, 0, none⟩) 0 0)).put (i := 1) (by simp) (.int .i64 t)).alloc (.cells #[] 3)
        show Box _ _ _
        simpa using hx
      · show Box _ _ _
        refine Box.alloc ?_ _
        (repeat (with_reducible refine Box.set_ ?_ (by omega) _))
        exact R1.out
      · show Below _ _ _
        refine Below.alloc ?_ (by simp only [World.size_setCell]; omega) _
        (repeat (with_reducible refine below_set ?_ (by omega) _))
        exact E1.out
      · simp only [World.size_setCell, World.size_alloc]; omega
      clear X1 R1 E1 G1 gx gr
      rintro w2 ⟨X2, R2, E2, s2⟩
      have x0 := (X2.out.2 0 _ rfl).1; have x1 := (X2.out.2 1 _ rfl).1; have x2 := (X2.out.2 2 _ rfl).1; have x3 := (X2.out.2 3 _ rfl).1; have x4 := (X2.out.2 4 _ rfl).1; have x5 := (X2.out.2 5 _ rfl).1
      have r0 := (R2.out.2 0 _ rfl).1; have r1 := (R2.out.2 1 _ rfl).1; have r2 := (R2.out.2 2 _ rfl).1; have r3 := (R2.out.2 3 _ rfl).1; have r4 := (R2.out.2 4 _ rfl).1; have r5 := (R2.out.2 5 _ rfl).1
      have g0 := (R2.out.2 0 _ rfl).2; have g1 := (R2.out.2 1 _ rfl).2; have g2 := (R2.out.2 2 _ rfl).2; have g3 := (R2.out.2 3 _ rfl).2; have g4 := (R2.out.2 4 _ rfl).2; have g5 := (R2.out.2 5 _ rfl).2
      go_wp2
      refine bodyPost_ret (v := .agg #[.slice (A) n c, .int .i64 (t), .slice (A') n' c', .int .i64 (q), .slice (some ⟨w1.heap.size, 0, none⟩) 0 0, .int .i64 (z)]) (by simp [results, Try.results62, go_sem, r0, r1, r2, r3, r4, r5, g0, g1, g2, g3, g4, g5]) rfl ?_
      obtain ⟨e1, e2⟩ := HP.out
      unfold SkPost
      rw [e1, e2]
      refine ⟨_, 0, 0, rfl, Nat.le_refl _, ?_, (Ints.nil _ _ _ 0 _).1⟩
      (repeat (with_reducible refine below_set ?_ (by omega) _))
      exact E2.out
    · obtain ⟨hi1, hi2⟩ := inB_iff.1 hin
      obtain ⟨k, hk⟩ : ∃ k : Nat, t - (p - (n2 : Int)) = (k : Int) := Int.eq_ofNat_of_zero_le (by omega)
      have hw : IntKind.i64.wrap (t - (p - (n2 : Int))) = (k : Int) := by rw [IntWalk.i64_in _ (by omega)]; exact hk
      have hkn : (k : Int) ≤ (n2 : Int) := by omega
      have hkN : k ≤ n2 := by omega
      have hkc : (k : Int) ≤ (c2 : Int) := by omega
      have hk0 : (0 : Int) ≤ (k : Int) := by omega
      have HP : Hid (skP p R t = p ∧ skR p R t = R.drop k) := by
        show _ ∧ _
        unfold skP skR skIn
        rw [← HG.out, hin, if_pos rfl, if_pos rfl, hk, Int.toNat_natCast]
        exact ⟨rfl, rfl⟩
      clear hin hk hi1 hi2
      have f0 := (X1.out.2 0 _ rfl).2; have f1 := (X1.out.2 1 _ rfl).2; have f2 := (X1.out.2 2 _ rfl).2; have f3 := (X1.out.2 3 _ rfl).2; have f4 := (X1.out.2 4 _ rfl).2; have f5 := (X1.out.2 5 _ rfl).2
      go_wp2_with fail
      by_cases hcm : c2 = k
      · skip
        go_region_law (first | (go_simp; go_at_call 61; refine (sTellReader0_any (w := w1.drew) (by omega) (by omega)).mono ?_; rintro e w2 ⟨rfl, hb2⟩; (try simp only [World.size_alloc, World.size_setCell, World.size_drew] at hb2); have HB2 := Lib.hid hb2; have s2 := hb2.size; (try simp only [World.size_alloc, World.size_setCell, World.size_drew] at s2); have X2 := Lib.hid (X1.out.drew.below hb2 (by omega)); have R2 := Lib.hid (R1.out.drew.below hb2 (by omega)); have G2 := Lib.hid (G1.out.drew.below hb2 (by omega)); clear hb2; clear x0 x1 x2 x3 x4 x5; clear f0 f1 f2 f3 f4 f5; have x0 := (X2.out.2 0 _ rfl).1; have x1 := (X2.out.2 1 _ rfl).1; have x2 := (X2.out.2 2 _ rfl).1; have x3 := (X2.out.2 3 _ rfl).1; have x4 := (X2.out.2 4 _ rfl).1; have x5 := (X2.out.2 5 _ rfl).1; have f0 := (X2.out.2 0 _ rfl).2; have f1 := (X2.out.2 1 _ rfl).2; have f2 := (X2.out.2 2 _ rfl).2; have f3 := (X2.out.2 3 _ rfl).2; have f4 := (X2.out.2 4 _ rfl).2; have f5 := (X2.out.2 5 _ rfl).2) | (go_simp; go_at_call 76; refine (copyInts_any (G2.out.dropped (a := k) (by omega) A2) (by omega) (by omega)).mono ?_; rintro e w3 ⟨A5, n5, c5, rfl, hc5, hb3, hi3⟩; have HB3 := Lib.hid hb3; have HI3 := Lib.hid hi3; have s3 := hb3.size; have X3 := Lib.hid (X2.out.below hb3 (by omega)); have R3 := Lib.hid (R2.out.below hb3 (by omega)); clear hb3 hi3; clear x0 x1 x2 x3 x4 x5; clear f0 f1 f2 f3 f4 f5; have x0 := (X3.out.2 0 _ rfl).1; have x1 := (X3.out.2 1 _ rfl).1; have x2 := (X3.out.2 2 _ rfl).1; have x3 := (X3.out.2 3 _ rfl).1; have x4 := (X3.out.2 4 _ rfl).1; have x5 := (X3.out.2 5 _ rfl).1; have f0 := (X3.out.2 0 _ rfl).2; have f1 := (X3.out.2 1 _ rfl).2; have f2 := (X3.out.2 2 _ rfl).2; have f3 := (X3.out.2 3 _ rfl).2; have f4 := (X3.out.2 4 _ rfl).2; have f5 := (X3.out.2 5 _ rfl).2))
        all_goals
          have r0 := (R3.out.2 0 _ rfl).1; have r1 := (R3.out.2 1 _ rfl).1; have r2 := (R3.out.2 2 _ rfl).1; have r3 := (R3.out.2 3 _ rfl).1; have r4 := (R3.out.2 4 _ rfl).1; have r5 := (R3.out.2 5 _ rfl).1
          have g0 := (R3.out.2 0 _ rfl).2; have g1 := (R3.out.2 1 _ rfl).2; have g2 := (R3.out.2 2 _ rfl).2; have g3 := (R3.out.2 3 _ rfl).2; have g4 := (R3.out.2 4 _ rfl).2; have g5 := (R3.out.2 5 _ rfl).2
          go_wp2
          refine bodyPost_ret (v := .agg #[.slice (A) n c, .int .i64 (p), .slice (A') n' c', .int .i64 (q), .slice (A5) n5 c5, .int .i64 (z)]) (by simp [results, Try.results62, go_sem, r0, r1, r2, r3, r4, r5, g0, g1, g2, g3, g4, g5]) rfl ?_
          obtain ⟨e1, e2⟩ := HP.out
          unfold SkPost
          rw [e1, e2]
          refine ⟨A5, n5, c5, rfl, hc5, ?_, ?_⟩
          · (repeat (with_reducible refine below_set ?_ (by omega) _))
            exact below_step HB3.out (below_step HB2.out E1.out.drew (by omega)) (by omega)
          · simp only [World.size_setCell]
            refine Ints.more (lo := w2.heap.size) (hi := w3.heap.size) ?_ (by omega) (by omega)
            (repeat (with_reducible refine Ints.set_ ?_ (by omega) _))
            exact HI3.out
      · skip
        go_region_law (first | (go_simp; go_at_call 61; refine (sTellReader0_any (w := w1.drew) (by omega) (by omega)).mono ?_; rintro e w2 ⟨rfl, hb2⟩; (try simp only [World.size_alloc, World.size_setCell, World.size_drew] at hb2); have HB2 := Lib.hid hb2; have s2 := hb2.size; (try simp only [World.size_alloc, World.size_setCell, World.size_drew] at s2); have X2 := Lib.hid (X1.out.drew.below hb2 (by omega)); have R2 := Lib.hid (R1.out.drew.below hb2 (by omega)); have G2 := Lib.hid (G1.out.drew.below hb2 (by omega)); clear hb2; clear x0 x1 x2 x3 x4 x5; clear f0 f1 f2 f3 f4 f5; have x0 := (X2.out.2 0 _ rfl).1; have x1 := (X2.out.2 1 _ rfl).1; have x2 := (X2.out.2 2 _ rfl).1; have x3 := (X2.out.2 3 _ rfl).1; have x4 := (X2.out.2 4 _ rfl).1; have x5 := (X2.out.2 5 _ rfl).1; have f0 := (X2.out.2 0 _ rfl).2; have f1 := (X2.out.2 1 _ rfl).2; have f2 := (X2.out.2 2 _ rfl).2; have f3 := (X2.out.2 3 _ rfl).2; have f4 := (X2.out.2 4 _ rfl).2; have f5 := (X2.out.2 5 _ rfl).2) | (go_simp; go_at_call 76; refine (copyInts_any (G2.out.drop hkN) (by omega) (by omega)).mono ?_; rintro e w3 ⟨A5, n5, c5, rfl, hc5, hb3, hi3⟩; have HB3 := Lib.hid hb3; have HI3 := Lib.hid hi3; have s3 := hb3.size; have X3 := Lib.hid (X2.out.below hb3 (by omega)); have R3 := Lib.hid (R2.out.below hb3 (by omega)); clear hb3 hi3; clear x0 x1 x2 x3 x4 x5; clear f0 f1 f2 f3 f4 f5; have x0 := (X3.out.2 0 _ rfl).1; have x1 := (X3.out.2 1 _ rfl).1; have x2 := (X3.out.2 2 _ rfl).1; have x3 := (X3.out.2 3 _ rfl).1; have x4 := (X3.out.2 4 _ rfl).1; have x5 := (X3.out.2 5 _ rfl).1; have f0 := (X3.out.2 0 _ rfl).2; have f1 := (X3.out.2 1 _ rfl).2; have f2 := (X3.out.2 2 _ rfl).2; have f3 := (X3.out.2 3 _ rfl).2; have f4 := (X3.out.2 4 _ rfl).2; have f5 := (X3.out.2 5 _ rfl).2))
        all_goals
          have r0 := (R3.out.2 0 _ rfl).1; have r1 := (R3.out.2 1 _ rfl).1; have r2 := (R3.out.2 2 _ rfl).1; have r3 := (R3.out.2 3 _ rfl).1; have r4 := (R3.out.2 4 _ rfl).1; have r5 := (R3.out.2 5 _ rfl).1
          have g0 := (R3.out.2 0 _ rfl).2; have g1 := (R3.out.2 1 _ rfl).2; have g2 := (R3.out.2 2 _ rfl).2; have g3 := (R3.out.2 3 _ rfl).2; have g4 := (R3.out.2 4 _ rfl).2; have g5 := (R3.out.2 5 _ rfl).2
          go_wp2
          refine bodyPost_ret (v := .agg #[.slice (A) n c, .int .i64 (p), .slice (A') n' c', .int .i64 (q), .slice (A5) n5 c5, .int .i64 (z)]) (by simp [results, Try.results62, go_sem, r0, r1, r2, r3, r4, r5, g0, g1, g2, g3, g4, g5]) rfl ?_
          obtain ⟨e1, e2⟩ := HP.out
          unfold SkPost
          rw [e1, e2]
          refine ⟨A5, n5, c5, rfl, hc5, ?_, ?_⟩
          · (repeat (with_reducible refine below_set ?_ (by omega) _))
            exact below_step HB3.out (below_step HB2.out E1.out.drew (by omega)) (by omega)
          · simp only [World.size_setCell]
            refine Ints.more (lo := w2.heap.size) (hi := w3.heap.size) ?_ (by omega) (by omega)
            (repeat (with_reducible refine Ints.set_ ?_ (by omega) _))
            exact HI3.out
set_option maxHeartbeats 4000000 in
theorem SSeekReader_any {A A' A2 : Option Addr} {n c n' c' n2 c2 : Nat} {D S R : List Int} {p q z off wh : Int} {w : World} {L L' B B' M C : Nat} (h : Ints w L B A n D) (h' : Ints w L' B' A' n' S) (g : Ints w M C A2 n2 R) (hB : B ≤ w.heap.size) (hB' : B' ≤ w.heap.size) (hC : C ≤ w.heap.size) (hnc : n ≤ c) :
    Calls Try.prog 27 #[.agg #[.slice (A) n c, .int .i64 (p), .slice (A') n' c', .int .i64 (q), .slice (A2) n2 c2, .int .i64 (z)], .int .i64 off, .int .i64 wh] w (Post2R (seekROut D p S q R z off wh) w) := by
  have HL := Lib.hid h.len
  have HL' := Lib.hid h'.len
  have H1 : Hid (Ints ((w.alloc (.cells #[.slice (A) n c, .int .i64 (p), .slice (A') n' c', .int .i64 (q), .slice (A2) n2 c2, .int .i64 (z)] 27)).alloc (.cells #[.slice none 0 0, .int .i64 0, .slice none 0 0, .int .i64 0, .slice none 0 0, .int .i64 0] 27)) L B A n D) := (h.alloc hB _).alloc (by first | omega | (simp; omega) | (simp; done)) _
  have H2 : Hid (Ints ((w.alloc (.cells #[.slice (A) n c, .int .i64 (p), .slice (A') n' c', .int .i64 (q), .slice (A2) n2 c2, .int .i64 (z)] 27)).alloc (.cells #[.slice none 0 0, .int .i64 0, .slice none 0 0, .int .i64 0, .slice none 0 0, .int .i64 0] 27)) L' B' A' n' S) := (h'.alloc hB' _).alloc (by first | omega | (simp; omega) | (simp; done)) _
  have HG := Lib.hid g.len
  have G1 : Hid (Ints ((w.alloc (.cells #[.slice (A) n c, .int .i64 (p), .slice (A') n' c', .int .i64 (q), .slice (A2) n2 c2, .int .i64 (z)] 27)).alloc (.cells #[.slice none 0 0, .int .i64 0, .slice none 0 0, .int .i64 0, .slice none 0 0, .int .i64 0] 27)) M C A2 n2 R) := (g.alloc hC _).alloc (by first | omega | (simp; omega) | (simp; done)) _
  have X0 : Hid (Box ((w.alloc (.cells #[.slice (A) n c, .int .i64 (p), .slice (A') n' c', .int .i64 (q), .slice (A2) n2 c2, .int .i64 (z)] 27)).alloc (.cells #[.slice none 0 0, .int .i64 0, .slice none 0 0, .int .i64 0, .slice none 0 0, .int .i64 0] 27)) w.heap.size [.slice (A) n c, .int .i64 (p), .slice (A') n' c', .int .i64 (q), .slice (A2) n2 c2, .int .i64 (z)]) := (Box.new w 27 [.slice (A) n c, .int .i64 (p), .slice (A') n' c', .int .i64 (q), .slice (A2) n2 c2, .int .i64 (z)]).alloc _
  have R0 : Hid (Box ((w.alloc (.cells #[.slice (A) n c, .int .i64 (p), .slice (A') n' c', .int .i64 (q), .slice (A2) n2 c2, .int .i64 (z)] 27)).alloc (.cells #[.slice none 0 0, .int .i64 0, .slice none 0 0, .int .i64 0, .slice none 0 0, .int .i64 0] 27)) (w.heap.size + 1) [.slice none 0 0, .int .i64 0, .slice none 0 0, .int .i64 0, .slice none 0 0, .int .i64 0]) := by
    have hx := Box.new (w.alloc (.cells #[.slice (A) n c, .int .i64 (p), .slice (A') n' c', .int .i64 (q), .slice (A2) n2 c2, .int .i64 (z)] 27)) 27 [.slice none 0 0, .int .i64 0, .slice none 0 0, .int .i64 0, .slice none 0 0, .int .i64 0]
    rw [World.size_alloc] at hx
    exact hx
  have E0 : Hid (Below w.heap.size w ((w.alloc (.cells #[.slice (A) n c, .int .i64 (p), .slice (A') n' c', .int .i64 (q), .slice (A2) n2 c2, .int .i64 (z)] 27)).alloc (.cells #[.slice none 0 0, .int .i64 0, .slice none 0 0, .int .i64 0, .slice none 0 0, .int .i64 0] 27))) := (by go_grown : Below w.heap.size w _)
  have s0 : (((w.alloc (.cells #[.slice (A) n c, .int .i64 (p), .slice (A') n' c', .int .i64 (q), .slice (A2) n2 c2, .int .i64 (z)] 27)).alloc (.cells #[.slice none 0 0, .int .i64 0, .slice none 0 0, .int .i64 0, .slice none 0 0, .int .i64 0] 27))).heap.size = w.heap.size + 2 := by simp
  clear h h' g
  go_enter Try.func27, Try.ntmps27
  go_wp2_with fail
  generalize ((w.alloc (.cells #[.slice (A) n c, .int .i64 (p), .slice (A') n' c', .int .i64 (q), .slice (A2) n2 c2, .int .i64 (z)] 27)).alloc (.cells #[.slice none 0 0, .int .i64 0, .slice none 0 0, .int .i64 0, .slice none 0 0, .int .i64 0] 27)) = w0 at *
  refine (sValidReader0_any H1.out H2.out G1.out (by omega) (by omega) (by omega)).mono ?_
  rintro e w1 ⟨rfl, hb1⟩
  have s1 := hb1.size
  have E1 := Lib.hid (below_step hb1 E0.out (by omega))
  have X1 := Lib.hid (X0.out.below hb1 (by omega))
  have R1 := Lib.hid (R0.out.below hb1 (by omega))
  have I1 := Lib.hid (H1.out.below hb1 (by omega))
  have I2 := Lib.hid (H2.out.below hb1 (by omega))
  have G2 := Lib.hid (G1.out.below hb1 (by omega))
  clear hb1 H1 H2 G1 X0 R0 E0
  cases hg : validR D p S q R z
  · have HO : Hid (seekROut D p S q R z off wh = (Rv.zero, false)) := by show _ = _; simp [seekROut, hg]
    clear hg
    have r0 := (R1.out.2 0 _ rfl).1; have r1 := (R1.out.2 1 _ rfl).1; have r2 := (R1.out.2 2 _ rfl).1; have r3 := (R1.out.2 3 _ rfl).1; have r4 := (R1.out.2 4 _ rfl).1; have r5 := (R1.out.2 5 _ rfl).1
    have g0 := (R1.out.2 0 _ rfl).2; have g1 := (R1.out.2 1 _ rfl).2; have g2 := (R1.out.2 2 _ rfl).2; have g3 := (R1.out.2 3 _ rfl).2; have g4 := (R1.out.2 4 _ rfl).2; have g5 := (R1.out.2 5 _ rfl).2
    go_wp2
    refine bodyPost_ret (v := .tuple #[.agg #[.slice none 0 0, .int .i64 0, .slice none 0 0, .int .i64 0, .slice none 0 0, .int .i64 0], .bool false]) (by simp [results, Try.results27, go_sem, r0, r1, r2, r3, r4, r5, g0, g1, g2, g3, g4, g5]) rfl ?_
    rw [HO.out]
    refine Post2R.zero ?_
    (repeat (with_reducible refine below_set ?_ (by omega) _))
    exact E1.out
  · have hnow := tell_ok hg
    obtain ⟨hvd, hz, hRz, hah⟩ := validR_iff.1 hg
    obtain ⟨hb, hs12, _, hp, hq⟩ := validD_iff.1 hvd
    have hn60 : n ≤ 60 := by rw [HL.out]; exact bytesB_le hb
    have hn12 : n' ≤ 12 := by rw [HL'.out]; exact hs12
    have hn16 : n2 ≤ 16 := by have := HG.out; omega
    rw [← HG.out] at hnow
    obtain ⟨a, rfl⟩ := Int.eq_ofNat_of_zero_le hq.1
    have HO : Hid (seekROut D p S a R z off wh = if seekOk (seekAt n (p - (n2 : Int)) off wh) then (⟨D, skP p R (seekTo (seekAt n (p - (n2 : Int)) off wh)), S, (a : Int), skR p R (seekTo (seekAt n (p - (n2 : Int)) off wh)), z⟩, true) else (Rv.zero, false)) := by
      show _ = _
      rw [HL.out, HG.out]
      simp [seekROut, hg]
    clear hg hvd hb hs12 hah
    cases hgs : (inB off (-60) 60 && inB wh 0 2)
    · have hT : seekAt n (p - (n2 : Int)) off wh = none := by unfold seekAt; rw [hgs]; rfl
      rw [hT] at HO
      have HGS := Lib.hid hgs
      clear hgs hT
      have r0 := (R1.out.2 0 _ rfl).1; have r1 := (R1.out.2 1 _ rfl).1; have r2 := (R1.out.2 2 _ rfl).1; have r3 := (R1.out.2 3 _ rfl).1; have r4 := (R1.out.2 4 _ rfl).1; have r5 := (R1.out.2 5 _ rfl).1
      have g0 := (R1.out.2 0 _ rfl).2; have g1 := (R1.out.2 1 _ rfl).2; have g2 := (R1.out.2 2 _ rfl).2; have g3 := (R1.out.2 3 _ rfl).2; have g4 := (R1.out.2 4 _ rfl).2; have g5 := (R1.out.2 5 _ rfl).2
      go_wp2_with (go_at_call 59; refine (goodSeek_any).mono ?_; rintro e w' ⟨rfl, rfl⟩; rw [HGS.out])
      refine bodyPost_ret (v := .tuple #[.agg #[.slice none 0 0, .int .i64 0, .slice none 0 0, .int .i64 0, .slice none 0 0, .int .i64 0], .bool false]) (by simp [results, Try.results27, go_sem, r0, r1, r2, r3, r4, r5, g0, g1, g2, g3, g4, g5]) rfl ?_
      rw [HO.out]
      refine Post2R.zero ?_
      (repeat (with_reducible refine below_set ?_ (by omega) _))
      exact E1.out
    · have hcall := fun wx : World => placeFor_any (off := off) (wh := wh) (now := p - (n2 : Int)) (size := (n : Int)) (w := wx) (by omega) (by omega) hnow.1 hnow.2 hgs
      have hin := seekTo_in (size := n) (now := p - (n2 : Int)) (off := off) (wh := wh)
      have HGS := Lib.hid hgs
      obtain ⟨T, hT⟩ : ∃ T, seekAt n (p - (n2 : Int)) off wh = T := ⟨_, rfl⟩
      rw [hT] at HO hin
      simp only [hT] at hcall
      have HC := Lib.hid hcall
      clear hgs hT hcall
      have x0 := (X1.out.2 0 _ rfl).1; have x1 := (X1.out.2 1 _ rfl).1; have x2 := (X1.out.2 2 _ rfl).1; have x3 := (X1.out.2 3 _ rfl).1; have x4 := (X1.out.2 4 _ rfl).1; have x5 := (X1.out.2 5 _ rfl).1
      go_wp2_with (go_at_call 59; refine (goodSeek_any).mono ?_; rintro e w' ⟨rfl, rfl⟩; rw [HGS.out])
      go_region_held3 (fun w' => w'.cell? ⟨w.heap.size, 0, none⟩ = some (.slice A n c) ∧ w'.cell? ⟨w.heap.size, 1, none⟩ = some (.int .i64 p) ∧ w'.cell? ⟨w.heap.size, 2, none⟩ = some (.slice A' n' c') ∧ w'.cell? ⟨w.heap.size, 3, none⟩ = some (.int .i64 (a : Int)) ∧ w'.cell? ⟨w.heap.size, 4, none⟩ = some (.slice A2 n2 c2) ∧ w'.cell? ⟨w.heap.size, 5, none⟩ = some (.int .i64 z)) (go_keep)
        (first | (go_at_call 61; refine (sTellReader0_any (w := w1.drew) (by omega) (by omega)).mono ?_; rintro e w2 ⟨rfl, hb2⟩; (try simp only [World.size_alloc, World.size_setCell, World.size_drew] at hb2); have HB2 := Lib.hid hb2; have s2 := hb2.size; (try simp only [World.size_alloc, World.size_setCell, World.size_drew] at s2); have X2 := Lib.hid (X1.out.drew.below hb2 (by omega)); clear hb2; clear x0 x1 x2 x3 x4 x5; have x0 := (X2.out.2 0 _ rfl).1; have x1 := (X2.out.2 1 _ rfl).1; have x2 := (X2.out.2 2 _ rfl).1; have x3 := (X2.out.2 3 _ rfl).1; have x4 := (X2.out.2 4 _ rfl).1; have x5 := (X2.out.2 5 _ rfl).1) | (go_at_call 60; refine (HC.out _).mono ?_; rintro e w3' ⟨rfl, rfl⟩))
      all_goals
        have R2 := Lib.hid (R1.out.drew.below HB2.out (by omega))
        have J1 := Lib.hid (I1.out.drew.below HB2.out (by omega))
        have J2 := Lib.hid (I2.out.drew.below HB2.out (by omega))
        have G3 := Lib.hid (G2.out.drew.below HB2.out (by omega))
        have E2 : Hid (Below w.heap.size w w2) := below_step HB2.out E1.out.drew (by omega)
        clear R1 I1 I2 G2 E1 HB2 X1 HC
        cases T with
        | none =>
          clear x0 x1 x2 x3 x4 x5
          have r0 := (R2.out.2 0 _ rfl).1; have r1 := (R2.out.2 1 _ rfl).1; have r2 := (R2.out.2 2 _ rfl).1; have r3 := (R2.out.2 3 _ rfl).1; have r4 := (R2.out.2 4 _ rfl).1; have r5 := (R2.out.2 5 _ rfl).1
          have g0 := (R2.out.2 0 _ rfl).2; have g1 := (R2.out.2 1 _ rfl).2; have g2 := (R2.out.2 2 _ rfl).2; have g3 := (R2.out.2 3 _ rfl).2; have g4 := (R2.out.2 4 _ rfl).2; have g5 := (R2.out.2 5 _ rfl).2
          go_wp2
          refine bodyPost_ret (v := .tuple #[.agg #[.slice none 0 0, .int .i64 0, .slice none 0 0, .int .i64 0, .slice none 0 0, .int .i64 0], .bool false]) (by simp [results, Try.results27, go_sem, r0, r1, r2, r3, r4, r5, g0, g1, g2, g3, g4, g5]) rfl ?_
          rw [HO.out]
          refine Post2R.zero ?_
          (repeat (with_reducible refine below_set ?_ (by omega) _))
          exact E2.out
        | some t =>
          have ht : 0 ≤ t ∧ t ≤ 60 := hin
          have htn : ¬ t < 0 := by omega
          have ht0 : 0 ≤ t := ht.1
          have HO2 : Hid (seekROut D p S a R z off wh = (⟨D, skP p R t, S, (a : Int), skR p R t, z⟩, true)) := HO.out
          clear HO hin
          go_wp2_with fail
          clear x0 x1 x2 x3 x4 x5
          refine (sCopyReader_any J1.out J2.out G3.out (by omega) (by omega) (by omega) (by omega) (by omega) (by omega) (by unfold okInt; omega) (by unfold okInt; omega) (by unfold okInt; omega)).mono ?_
          rintro e w3 ⟨A3, n3, c3, A3', n3', c3', A4, n4, c4, rfl, ⟨hc3, hc3', hc4⟩, hb3, ⟨⟨h1, h2, ha, _, _⟩, h3, ha1, ha2, _⟩⟩
          have s3 := hb3.size
          have R3 := Lib.hid (R2.out.below hb3 (by omega))
          have E3 := Lib.hid (below_step hb3 E2.out (by omega))
          have D3 := Lib.hid h1
          have S3 := Lib.hid h2
          have B3 := Lib.hid h3
          have HA := Lib.hid ha
          have hn4 : n4 ≤ 60 := by have := h3.len; have := HG.out; omega
          clear hb3 h1 h2 h3 ha ha1 ha2 R2 E2 J1 J2 G3 X2
          go_wp2_with fail
          refine (sSeekReader0_any B3.out (by omega) hc4 hn4 hp ht).mono ?_
          rintro e w4 ⟨A5, n5, c5, rfl, hc5, hb4, hi4⟩
          have s4 := hb4.size
          have R4 := Lib.hid (R3.out.below hb4 (by omega))
          have E4 := Lib.hid (below_step hb4 E3.out (by omega))
          have D4 := Lib.hid (D3.out.below hb4 (by omega))
          have S4 := Lib.hid (S3.out.below hb4 (by omega))
          have HI4 := Lib.hid hi4
          clear hb4 hi4 R3 E3 D3 S3 B3
          have r0 := (R4.out.2 0 _ rfl).1; have r1 := (R4.out.2 1 _ rfl).1; have r2 := (R4.out.2 2 _ rfl).1; have r3 := (R4.out.2 3 _ rfl).1; have r4 := (R4.out.2 4 _ rfl).1; have r5 := (R4.out.2 5 _ rfl).1
          have g0 := (R4.out.2 0 _ rfl).2; have g1 := (R4.out.2 1 _ rfl).2; have g2 := (R4.out.2 2 _ rfl).2; have g3 := (R4.out.2 3 _ rfl).2; have g4 := (R4.out.2 4 _ rfl).2; have g5 := (R4.out.2 5 _ rfl).2
          go_wp2
          refine bodyPost_ret (v := .tuple #[.agg #[.slice (A3) n3 c3, .int .i64 (skP p R t), .slice (A3') n3' c3', .int .i64 ((a : Int)), .slice (A5) n5 c5, .int .i64 (z)], .bool true]) (by simp [results, Try.results27, go_sem, r0, r1, r2, r3, r4, r5, g0, g1, g2, g3, g4, g5]) rfl ?_
          rw [HO2.out]
          have hpp := skP_in (R := R) hp ht
          refine ⟨A3, n3, c3, A3', n3', c3', A5, n5, c5, rfl, ⟨hc3, hc3', hc5⟩, ?_, ⟨⟨?_, ?_, HA.out, ?_, ?_⟩, ?_, (Apart.of_le D4.out HI4.out (by omega)).symm, (Apart.of_le S4.out HI4.out (by omega)).symm, ?_⟩⟩
          · (repeat (with_reducible refine below_set ?_ (by omega) _))
            exact E4.out
          · simp only [World.size_setCell]
            refine Ints.more (lo := w2.heap.size) (hi := w3.heap.size) ?_ (by omega) (by omega)
            (repeat (with_reducible refine Ints.set_ ?_ (by omega) _))
            exact D4.out
          · simp only [World.size_setCell]
            refine Ints.more (lo := w2.heap.size) (hi := w3.heap.size) ?_ (by omega) (by omega)
            (repeat (with_reducible refine Ints.set_ ?_ (by omega) _))
            exact S4.out
          · unfold okInt; show _ ≤ skP p R t ∧ skP p R t ≤ _; omega
          · unfold okInt; show _ ≤ (a : Int) ∧ (a : Int) ≤ _; omega
          · simp only [World.size_setCell]
            refine Ints.more (lo := w3.heap.size) (hi := w4.heap.size) ?_ (by omega) (by omega)
            (repeat (with_reducible refine Ints.set_ ?_ (by omega) _))
            exact HI4.out
          · unfold okInt; show _ ≤ z ∧ z ≤ _; omega
theorem SSeekReader_x {A A' A2 : Option Addr} {n c n' c' n2 c2 : Nat} {D S R : List Int} {p q z off wh : Int} {w : World} {L L' B B' M C : Nat} (h : Ints w L B A n D) (h' : Ints w L' B' A' n' S) (g : Ints w M C A2 n2 R) (hB : B ≤ w.heap.size) (hB' : B' ≤ w.heap.size) (hC : C ≤ w.heap.size) (hc : n ≤ c) (_hc1 : n' ≤ c') (_hc2 : n2 ≤ c2) (_hn : n ≤ 1048576) (_hn1 : n' ≤ 1048576) (_hn2 : n2 ≤ 1048576) (_h1 : okInt off) (_h2 : okInt wh) :
    Calls Try.prog 27 #[.agg #[.slice (A) n c, .int .i64 (p), .slice (A') n' c', .int .i64 (q), .slice (A2) n2 c2, .int .i64 (z)], .int .i64 off, .int .i64 wh] w (Post2R (seekROut D p S q R z off wh) w) := SSeekReader_any h h' g hB hB' hC hc
theorem SeekReader_x {A A' A2 : Option Addr} {n c n' c' n2 c2 : Nat} {D S R : List Int} {p q z off wh : Int} {w : World} {L L' B B' M C : Nat} (h : Ints w L B A n D) (h' : Ints w L' B' A' n' S) (g : Ints w M C A2 n2 R) (hB : B ≤ w.heap.size) (hB' : B' ≤ w.heap.size) (hC : C ≤ w.heap.size) (hc : n ≤ c) (_hc1 : n' ≤ c') (_hc2 : n2 ≤ c2) (_hn : n ≤ 1048576) (_hn1 : n' ≤ 1048576) (_hn2 : n2 ≤ 1048576) (_h1 : okInt off) (_h2 : okInt wh) :
    Calls Try.prog 26 #[.agg #[.slice (A) n c, .int .i64 (p), .slice (A') n' c', .int .i64 (q), .slice (A2) n2 c2, .int .i64 (z)], .int .i64 off, .int .i64 wh] w (Post2R (seekROut D p S q R z off wh) w) := SeekReader_any h h' g hB hB' hC hc
end Go.Proofs.Ytmjmplfhedknhaa
