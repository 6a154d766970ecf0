/- The exact law of TellReader: for all arguments the function answers as its model, and writes into none. -/
import Derived.Test.YtjilbjkmnmbfeaaLawBase
import Derived.Test.YtjilbjkmnmbfeaaL5
import Derived.Test.YtjilbjkmnmbfeaaS2b
set_option maxRecDepth 10000
namespace Go.Proofs.Ytjilbjkmnmbfeaa
open Go.ChangeShapes Go.WideShapes Go.ChangeAt Go.RowKit
set_option linter.unusedSimpArgs false
set_option linter.unusedVariables false
namespace ExactTellReader
set_option maxHeartbeats 4000000 in
theorem walk (A A' A2 : Option Addr) (n c n' c' n2 c2 : Nat) (D S R : List Int) (p q z : Int) (w : World) (h : Ints w 0 w.heap.size A n D) (h' : Ints w 0 w.heap.size A' n' S) (g : Ints w 0 w.heap.size A2 n2 R) (hp : okInt p) (hq : okInt q) (hz : okInt z) :
    Calls Try.prog 14 #[.agg #[.slice (A) n c, .int .i64 (p), .slice (A') n' c', .int .i64 (q), .slice (A2) n2 c2, .int .i64 (z)]] w (BoolB true w) := by
  have hm := h.max
  have hm' := h'.max
  have hm2 := g.max
  have H1 := Lib.hid (h.alloc (Nat.le_refl _) (.cells #[.slice (A) n c, .int .i64 (p), .slice (A') n' c', .int .i64 (q), .slice (A2) n2 c2, .int .i64 (z)] 48))
  have H2 := Lib.hid (h'.alloc (Nat.le_refl _) (.cells #[.slice (A) n c, .int .i64 (p), .slice (A') n' c', .int .i64 (q), .slice (A2) n2 c2, .int .i64 (z)] 48))
  have H3 := Lib.hid (g.alloc (Nat.le_refl _) (.cells #[.slice (A) n c, .int .i64 (p), .slice (A') n' c', .int .i64 (q), .slice (A2) n2 c2, .int .i64 (z)] 48))
  have X0 := Lib.hid (Box.new w 48 [.slice (A) n c, .int .i64 (p), .slice (A') n' c', .int .i64 (q), .slice (A2) n2 c2, .int .i64 (z)])
  clear h h' g
  go_enter Try.func14, Try.ntmps14
  go_wp2_with fail
  refine (szReader_any hm hm' hm2 (by omega) (by omega)).mono ?_
  rintro e w1 ⟨r, rfl, hr, hb1⟩
  (try simp only [World.size_alloc, World.size_setCell, World.size_drew] at hb1)
  have s1 := hb1.size
  (try simp only [World.size_alloc, World.size_setCell, World.size_drew] at s1)
  have HB1 := Lib.hid hb1
  clear hb1
  have X1 := Lib.hid (X0.out.below HB1.out (by omega))
  have x0 := (X1.out.2 0 _ rfl).1; have x1 := (X1.out.2 1 _ rfl).1; have x2 := (X1.out.2 2 _ rfl).1; have x3 := (X1.out.2 3 _ rfl).1; have x4 := (X1.out.2 4 _ rfl).1; have x5 := (X1.out.2 5 _ rfl).1
  go_wp2_with fail
  · go_ret
    exact ⟨rfl, below_step HB1.out (by go_grown) (by omega)⟩
  · have hn : n ≤ 1048576 := by omega
    have hn' : n' ≤ 1048576 := by omega
    have hn2 : n2 ≤ 1048576 := by omega
    clear hr
    clear x0 x1 x2 x3 x4 x5
    have I1 := Lib.hid (H1.out.below HB1.out (by omega))
    have I2 := Lib.hid (H2.out.below HB1.out (by omega))
    have I3 := Lib.hid (H3.out.below HB1.out (by omega))
    clear H1 H2 H3 X0
    have E1 : Hid (Below w.heap.size w w1) := below_step HB1.out (by go_grown) (by omega)
    clear HB1
    refine (toReader_any I1.out I2.out I3.out (by omega) (by omega) (by omega) hn hn' hn2 hp hq hz).mono ?_
    rintro e w2 ⟨A3, n3, c3, A3', n3', c3', A4, n4, c4, rfl, ⟨hc3, _, _⟩, hb2, ⟨⟨d1, d2, _, _, _⟩, d3, _, _, _⟩⟩
    have HB2 := Lib.hid hb2
    clear hb2
    have s2 := HB2.out.size
    have K1 := Lib.hid d1
    have K2 := Lib.hid d2
    have K3 := Lib.hid d3
    clear d1 d2 d3
    go_wp2_with fail
    refine (STellReader_x K1.out K2.out K3.out (by omega) (by omega) (by omega) hc3).mono ?_
    rintro e w3 ⟨rfl, hb3⟩
    have HB3 := Lib.hid hb3
    clear hb3 K1 K2 K3
    have s3 := HB3.out.size
    have J1 := Lib.hid ((I1.out.below HB2.out (by omega)).below HB3.out (by omega))
    have J2 := Lib.hid ((I2.out.below HB2.out (by omega)).below HB3.out (by omega))
    have J3 := Lib.hid ((I3.out.below HB2.out (by omega)).below HB3.out (by omega))
    have X3 := Lib.hid ((X1.out.below HB2.out (by omega)).below HB3.out (by omega))
    clear I1 I2 I3 X1
    have E3 : Hid (Below w.heap.size w w3) := below_step HB3.out (below_step HB2.out E1.out (by omega)) (by omega)
    clear E1 HB2 HB3
    have x0 := (X3.out.2 0 _ rfl).1; have x1 := (X3.out.2 1 _ rfl).1; have x2 := (X3.out.2 2 _ rfl).1; have x3 := (X3.out.2 3 _ rfl).1; have x4 := (X3.out.2 4 _ rfl).1; have x5 := (X3.out.2 5 _ rfl).1
    go_wp2_with fail
    clear x0 x1 x2 x3 x4 x5
    refine (toReader_any J1.out J2.out J3.out (by omega) (by omega) (by omega) hn hn' hn2 hp hq hz).mono ?_
    rintro e w4 ⟨A5, n5, c5, A5', n5', c5', A6, n6, c6, rfl, ⟨hc5, _, _⟩, hb4, ⟨⟨d1, d2, _, _, _⟩, d3, _, _, _⟩⟩
    have HB4 := Lib.hid hb4
    clear hb4
    have s4 := HB4.out.size
    have K1 := Lib.hid (d1.alloc (Nat.le_refl _) (.cells #[.slice (A5) n5 c5, .int .i64 (p), .slice (A5') n5' c5', .int .i64 (q), .slice (A6) n6 c6, .int .i64 (z)] 52))
    have K2 := Lib.hid (d2.alloc (Nat.le_refl _) (.cells #[.slice (A5) n5 c5, .int .i64 (p), .slice (A5') n5' c5', .int .i64 (q), .slice (A6) n6 c6, .int .i64 (z)] 52))
    have K3 := Lib.hid (d3.alloc (Nat.le_refl _) (.cells #[.slice (A5) n5 c5, .int .i64 (p), .slice (A5') n5' c5', .int .i64 (q), .slice (A6) n6 c6, .int .i64 (z)] 52))
    clear d1 d2 d3
    go_wp2_with fail
    refine (TellReader_x K1.out K2.out K3.out (by simp) (by simp) (by simp) hc5).mono ?_
    rintro e w5 ⟨rfl, hb5⟩
    (try simp only [World.size_alloc, World.size_setCell, World.size_drew] at hb5)
    have HB5 := Lib.hid hb5
    clear hb5
    have s5 := HB5.out.size
    (try simp only [World.size_alloc, World.size_setCell, World.size_drew] at s5)
    have J1 := Lib.hid (((J1.out.below HB4.out (by omega)).alloc (by omega) (.cells #[.slice (A5) n5 c5, .int .i64 (p), .slice (A5') n5' c5', .int .i64 (q), .slice (A6) n6 c6, .int .i64 (z)] 52)).below HB5.out (by omega))
    have J2 := Lib.hid (((J2.out.below HB4.out (by omega)).alloc (by omega) (.cells #[.slice (A5) n5 c5, .int .i64 (p), .slice (A5') n5' c5', .int .i64 (q), .slice (A6) n6 c6, .int .i64 (z)] 52)).below HB5.out (by omega))
    have J3 := Lib.hid (((J3.out.below HB4.out (by omega)).alloc (by omega) (.cells #[.slice (A5) n5 c5, .int .i64 (p), .slice (A5') n5' c5', .int .i64 (q), .slice (A6) n6 c6, .int .i64 (z)] 52)).below HB5.out (by omega))
    have d1 := Lib.hid (K1.out.below HB5.out (by omega))
    have d2 := Lib.hid (K2.out.below HB5.out (by omega))
    have d3 := Lib.hid (K3.out.below HB5.out (by omega))
    have X5 := Lib.hid (((X3.out.below HB4.out (by omega)).alloc (.cells #[.slice (A5) n5 c5, .int .i64 (p), .slice (A5') n5' c5', .int .i64 (q), .slice (A6) n6 c6, .int .i64 (z)] 52)).below HB5.out (by omega))
    have Y5 := Lib.hid ((Box.new w4 52 [.slice (A5) n5 c5, .int .i64 (p), .slice (A5') n5' c5', .int .i64 (q), .slice (A6) n6 c6, .int .i64 (z)]).below HB5.out (by omega))
    have E5 : Hid (Below w.heap.size w w5) := below_step HB5.out ((below_step HB4.out E3.out (by omega)).alloc (by omega) _) (by omega)
    clear K1 K2 K3 X3 E3 HB4 HB5
    have x0 := (X5.out.2 0 _ rfl).1; have x1 := (X5.out.2 1 _ rfl).1; have x2 := (X5.out.2 2 _ rfl).1; have x3 := (X5.out.2 3 _ rfl).1; have x4 := (X5.out.2 4 _ rfl).1; have x5 := (X5.out.2 5 _ rfl).1
    have y0 := (Y5.out.2 0 _ rfl).1; have y1 := (Y5.out.2 1 _ rfl).1; have y2 := (Y5.out.2 2 _ rfl).1; have y3 := (Y5.out.2 3 _ rfl).1; have y4 := (Y5.out.2 4 _ rfl).1; have y5 := (Y5.out.2 5 _ rfl).1
    go_wp2_with fail
    go_region_held3 (fun w' => (w'.cell? ⟨w.heap.size, 0, none⟩ = some (.slice A n c) ∧ w'.cell? ⟨w.heap.size, 1, none⟩ = some (.int .i64 p) ∧ w'.cell? ⟨w.heap.size, 2, none⟩ = some (.slice A' n' c') ∧ w'.cell? ⟨w.heap.size, 3, none⟩ = some (.int .i64 q) ∧ w'.cell? ⟨w.heap.size, 4, none⟩ = some (.slice A2 n2 c2) ∧ w'.cell? ⟨w.heap.size, 5, none⟩ = some (.int .i64 z)) ∧ (w'.cell? ⟨w4.heap.size, 0, none⟩ = some (.slice A5 n5 c5) ∧ w'.cell? ⟨w4.heap.size, 1, none⟩ = some (.int .i64 p) ∧ w'.cell? ⟨w4.heap.size, 2, none⟩ = some (.slice A5' n5' c5') ∧ w'.cell? ⟨w4.heap.size, 3, none⟩ = some (.int .i64 q) ∧ w'.cell? ⟨w4.heap.size, 4, none⟩ = some (.slice A6 n6 c6) ∧ w'.cell? ⟨w4.heap.size, 5, none⟩ = some (.int .i64 z))) (go_keep)
      (first | (go_at_call 44; refine (toReader_any J1.out.drew J2.out.drew J3.out.drew (by first | omega | (simp; omega) | (simp; done)) (by first | omega | (simp; omega) | (simp; done)) (by first | omega | (simp; omega) | (simp; done)) hn hn' hn2 hp hq hz).mono ?_; rintro e w6 ⟨A7, n7, c7, A7', n7', c7', A8, n8, c8, rfl, ⟨_, _, _⟩, hb6, ⟨⟨e1, e2, _, _, _⟩, e3, _, _, _⟩⟩; (try simp only [World.size_alloc, World.size_setCell, World.size_drew] at hb6 e1 e2 e3); have HB6 := Lib.hid hb6; have X6 := Lib.hid (X5.out.drew.below hb6 (by omega)); have Y6 := Lib.hid (Y5.out.drew.below hb6 (by omega)); clear hb6; have x0 := (X6.out.2 0 _ rfl).1; have x1 := (X6.out.2 1 _ rfl).1; have x2 := (X6.out.2 2 _ rfl).1; have x3 := (X6.out.2 3 _ rfl).1; have x4 := (X6.out.2 4 _ rfl).1; have x5 := (X6.out.2 5 _ rfl).1; have y0 := (Y6.out.2 0 _ rfl).1; have y1 := (Y6.out.2 1 _ rfl).1; have y2 := (Y6.out.2 2 _ rfl).1; have y3 := (Y6.out.2 3 _ rfl).1; have y4 := (Y6.out.2 4 _ rfl).1; have y5 := (Y6.out.2 5 _ rfl).1) | (go_at_call 46; refine (eqReader_same (d1.out.drew.below HB6.out (by omega)) (d2.out.drew.below HB6.out (by omega)) (d3.out.drew.below HB6.out (by omega)) e1 e2 e3 (by have := HB6.out.size; simp at this; omega) (by have := HB6.out.size; simp at this; omega) (by have := HB6.out.size; simp at this; omega) (by omega) (by omega) (by omega)).mono ?_; rintro e w7 ⟨rfl, hb7⟩; have HB7 := Lib.hid hb7; have s6 := HB6.out.size; simp only [World.size_drew] at s6; have X7 := Lib.hid (X6.out.below hb7 (by omega)); have Y7 := Lib.hid (Y6.out.below hb7 (by omega)); clear hb7; have x0 := (X7.out.2 0 _ rfl).1; have x1 := (X7.out.2 1 _ rfl).1; have x2 := (X7.out.2 2 _ rfl).1; have x3 := (X7.out.2 3 _ rfl).1; have x4 := (X7.out.2 4 _ rfl).1; have x5 := (X7.out.2 5 _ rfl).1; have y0 := (Y7.out.2 0 _ rfl).1; have y1 := (Y7.out.2 1 _ rfl).1; have y2 := (Y7.out.2 2 _ rfl).1; have y3 := (Y7.out.2 3 _ rfl).1; have y4 := (Y7.out.2 4 _ rfl).1; have y5 := (Y7.out.2 5 _ rfl).1))
    go_wp2
    go_ret
    exact ⟨rfl, below_step HB7.out (below_step HB6.out E5.out.drew (by first | omega | (simp; omega) | (simp; done))) (by omega)⟩

theorem contract (H : Type) (enc : TypeId × Value → H) (W : World) (base : Nat) (args : Array Value) (ds gs : List (DataW H)) (before : List MemPlace)
    (hval : ∀ (j : Nat) t v, Try.f14.params[j]? = some t → args[j]? = some v → Value.okWide Try.prog W .any base t v)
    (hW : DataW.Whole enc Try.prog Try.f14.params.toList Rows.fnExactTellReaderSpec.vars false W args.toList ds gs before) :
    Calls Try.prog 14 args W fun e W' => ∃ v, e = .returned v ∧ Rows.fnExactTellReaderSpec.post enc Try.prog Try.f14 false true false false W args v W' := by
  have hW' := hW
  have hlt : ∀ p ∈ before, p.block < W.heap.size := fun p hp => hW.lt p hp
  obtain ⟨p, q, hA0, hV, rfl, hfz, hnd⟩ := hW
  have hA : DataW.TrodAll enc Try.prog W 0 (fun _ => true) true Try.f14.params.toList args.toList ds p := hA0
  rw [Try.params14] at hA hval
  obtain ⟨v0, vs0, d0, ds0, p0, q0, hargs, rfl, rfl, h0, r0⟩ := trodAll_cons hA
  obtain ⟨rfl, rfl, rfl⟩ := trodAll_nil r0
  obtain rfl : args = #[v0] := by cases args; simp_all
  obtain ⟨rfl, rfl⟩ := trodVars_none hV
  obtain ⟨A, n, c, x, A', n', c', y, A2, n2, c2, u, D, S, R, rfl, hD, hS, hR, hx, hy, hu⟩ := arg_reader (hval 0 _ v0 rfl rfl) h0 (fun p hp => hlt p (by simp [hp])) (fun b o hp => hfz b o (by simp [hp]))
  refine (walk A A' A2 n c n' c' n2 c2 D S R x y u W hD hS hR hx hy hu).mono fun e W' hh => ?_
  obtain ⟨rfl, hb⟩ := hh
  exact ⟨_, rfl, law_post laidOut (tys_of (by rw [Try.params14]; kernel_rfl)) hW' rfl rfl rfl Try.underlying4 hb⟩

set_option maxRecDepth 100000 in
theorem lifted (os : Os) (started : os.Started) (H : Type) (enc : TypeId × Value → H) :
    ReturnsInHanded {} Try.checked os 14 .any (Rows.fnExactTellReaderSpec.pre6 enc Try.prog Try.f14 Rows.fnExactTellReaderRow.domain false) (Rows.fnExactTellReaderSpec.post enc Try.prog Try.f14 false true false false) := by
  refine returnsInHanded_of_change (C := Try.checked) own started (by kernel_rfl) Try.func14
    (ChangeSpec.witness6 (C := Try.checked) false ⟨#[], #[.agg #[.slice none 0 0, .int .i64 0, .slice none 0 0, .int .i64 0, .slice none 0 0, .int .i64 0]], []⟩ 8 (by kernel_rfl) (by kernel_rfl) (by kernel_rfl) (by kernel_rfl)) ?_
  intro W base args ds gs before hval hW _ _
  exact contract H enc W base args ds gs before hval hW

theorem holds : Rows.FnExactTellReaderSaid :=
  OpenClaim.holds_of_wide 14 Try.f14 rfl rfl rfl rfl rfl rfl rfl ⟨rfl, rfl, rfl, rfl, rfl⟩ rfl rfl rfl rfl rfl (by kernel_rfl) Try.func14 (by kernel_rfl)
    (of_decide_eq_true (by kernel_rfl)) (by unfold Func.isWrapper; first | (rw [if_pos (by decide +kernel)]; kernel_rfl) | (rw [if_neg (by decide +kernel)]; exact ⟨rfl, rfl⟩))
    (fun os started H enc _ => lifted os started H enc)
end ExactTellReader
end Go.Proofs.Ytjilbjkmnmbfeaa
