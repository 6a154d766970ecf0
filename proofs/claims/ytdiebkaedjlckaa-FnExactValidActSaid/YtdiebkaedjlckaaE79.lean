/- The exact law of ValidAct: for all arguments the function answers as its model, and writes into none. -/
import Derived.Test.YtdiebkaedjlckaaLawBase
import Derived.Test.YtdiebkaedjlckaaLA
import Derived.Test.YtdiebkaedjlckaaA0
set_option maxRecDepth 10000
namespace Go.Proofs.Ytdiebkaedjlckaa
open Go.ChangeShapes Go.WideShapes Go.ChangeAt Go.RowKit
set_option linter.unusedSimpArgs false
set_option linter.unusedVariables false
namespace ExactValidAct
set_option maxHeartbeats 16000000 in
theorem walk (A0 : Option Addr) (n0 c0 : Nat) (D0 : List Int) (p0 q0 yy0 : Int) (w : World) (h0 : Ints w 0 w.heap.size A0 n0 D0) (hp0 : okInt p0) (hq0 : okInt q0) (hy0 : okInt yy0) :
    Calls Try.prog 7 #[.agg #[.int .i64 (p0), .int .i64 (q0), .int .i64 (yy0), .slice A0 n0 c0]] w (BoolB true w) := by
  have HLa0 := Lib.hid h0.len
  have hm0 := h0.max
  have a01 := Lib.hid h0
  clear h0
  have EB := Lib.hid (Below.refl w.heap.size w)
  replace a01 := Lib.hid (a01.out.alloc (Nat.le_refl _) (.cells #[.int .i64 (p0), .int .i64 (q0), .int .i64 (yy0), .slice A0 n0 c0] 53))
  replace EB := Lib.hid (EB.out.alloc (Nat.le_refl _) (.cells #[.int .i64 (p0), .int .i64 (q0), .int .i64 (yy0), .slice A0 n0 c0] 53))
  have Ba0 := Lib.hid (Box.new w 53 [.int .i64 (p0), .int .i64 (q0), .int .i64 (yy0), .slice A0 n0 c0])
  go_enter Try.func7, Try.ntmps7
  go_wp2_with fail
  refine (szAct_any hm0 (by omega) (by omega)).mono ?_
  rintro e w1 ⟨r, rfl, hr, hb⟩
  (try simp only [World.size_alloc, World.size_setCell, World.size_drew] at hb)
  have HB := Lib.hid hb
  clear hb
  have s1 := HB.out.size
  (try simp only [World.size_alloc, World.size_setCell, World.size_drew] at s1)
  replace a01 := Lib.hid (a01.out.below HB.out (by omega))
  replace Ba0 := Lib.hid (Ba0.out.below HB.out (by omega))
  replace EB := Lib.hid (below_step HB.out EB.out (by omega))
  clear HB
  have va0l := Ba0.out.lt
  have va00 := (Ba0.out.2 0 _ rfl).1
  have va01 := (Ba0.out.2 1 _ rfl).1
  have va02 := (Ba0.out.2 2 _ rfl).1
  have va03 := (Ba0.out.2 3 _ rfl).1
  go_wp2_with fail
  · go_ret
    exact ⟨rfl, EB.out⟩
  have hs0 : n0 ≤ 1048576 := by omega
  clear hr
  refine (toAct_any a01.out (by omega) hs0 hp0 hq0 hy0).mono ?_
  clear va0l va00 va01 va02 va03
  rintro e w2 ⟨At0, nt0, ct0, rfl, hct0, hb, hd0, _⟩
  (try simp only [World.size_alloc, World.size_setCell, World.size_drew] at hb)
  have HB := Lib.hid hb
  clear hb
  have s2 := HB.out.size
  (try simp only [World.size_alloc, World.size_setCell, World.size_drew] at s2)
  replace a01 := Lib.hid (a01.out.below HB.out (by omega))
  replace Ba0 := Lib.hid (Ba0.out.below HB.out (by omega))
  replace EB := Lib.hid (below_step HB.out EB.out (by omega))
  clear HB
  have t01 := Lib.hid hd0
  clear hd0
  have ht0 : nt0 ≤ 1048576 := by have := t01.out.len; have := HLa0.out; omega
  go_wp2_with fail
  refine (SValidAct_x t01.out (by omega) hct0 ht0).mono ?_
  rintro e w3 ⟨rfl, hb⟩
  (try simp only [World.size_alloc, World.size_setCell, World.size_drew] at hb)
  have HB := Lib.hid hb
  clear hb
  have s3 := HB.out.size
  (try simp only [World.size_alloc, World.size_setCell, World.size_drew] at s3)
  replace a01 := Lib.hid (a01.out.below HB.out (by omega))
  replace Ba0 := Lib.hid (Ba0.out.below HB.out (by omega))
  replace t01 := Lib.hid (t01.out.below HB.out (by omega))
  replace EB := Lib.hid (below_step HB.out EB.out (by omega))
  clear HB
  clear t01
  have va0l := Ba0.out.lt
  have va00 := (Ba0.out.2 0 _ rfl).1
  have va01 := (Ba0.out.2 1 _ rfl).1
  have va02 := (Ba0.out.2 2 _ rfl).1
  have va03 := (Ba0.out.2 3 _ rfl).1
  go_wp2_with fail
  refine (toAct_any a01.out (by omega) hs0 hp0 hq0 hy0).mono ?_
  clear va0l va00 va01 va02 va03
  rintro e w4 ⟨Ax0, nx0, cx0, rfl, hcx0, hb, hd0, _⟩
  (try simp only [World.size_alloc, World.size_setCell, World.size_drew] at hb)
  have HB := Lib.hid hb
  clear hb
  have s4 := HB.out.size
  (try simp only [World.size_alloc, World.size_setCell, World.size_drew] at s4)
  replace a01 := Lib.hid (a01.out.below HB.out (by omega))
  replace Ba0 := Lib.hid (Ba0.out.below HB.out (by omega))
  replace EB := Lib.hid (below_step HB.out EB.out (by omega))
  clear HB
  have x01 := Lib.hid hd0
  clear hd0
  have hx0 : nx0 ≤ 1048576 := by have := x01.out.len; have := HLa0.out; omega
  go_wp2_with fail
  replace a01 := Lib.hid (a01.out.alloc (by omega) (.cells #[.int .i64 (p0), .int .i64 (q0), .int .i64 (yy0), .slice Ax0 nx0 cx0] 56))
  replace Ba0 := Lib.hid (Ba0.out.alloc (.cells #[.int .i64 (p0), .int .i64 (q0), .int .i64 (yy0), .slice Ax0 nx0 cx0] 56))
  replace x01 := Lib.hid (x01.out.alloc (by omega) (.cells #[.int .i64 (p0), .int .i64 (q0), .int .i64 (yy0), .slice Ax0 nx0 cx0] 56))
  replace EB := Lib.hid (EB.out.alloc (by omega) (.cells #[.int .i64 (p0), .int .i64 (q0), .int .i64 (yy0), .slice Ax0 nx0 cx0] 56))
  have Bx0 := Lib.hid (Box.new w4 56 [.int .i64 (p0), .int .i64 (q0), .int .i64 (yy0), .slice Ax0 nx0 cx0])
  have s5 : w4.heap.size + 1 ≤ (w4.alloc (.cells #[.int .i64 (p0), .int .i64 (q0), .int .i64 (yy0), .slice Ax0 nx0 cx0] 56)).heap.size := by simp
  generalize w4.alloc (.cells #[.int .i64 (p0), .int .i64 (q0), .int .i64 (yy0), .slice Ax0 nx0 cx0] 56) = w5 at *
  refine (ValidAct_x x01.out (by omega) hcx0 hx0).mono ?_
  rintro e w6 ⟨rfl, hb⟩
  (try simp only [World.size_alloc, World.size_setCell, World.size_drew] at hb)
  have HB := Lib.hid hb
  clear hb
  have s6 := HB.out.size
  (try simp only [World.size_alloc, World.size_setCell, World.size_drew] at s6)
  replace a01 := Lib.hid (a01.out.below HB.out (by omega))
  replace Ba0 := Lib.hid (Ba0.out.below HB.out (by omega))
  replace x01 := Lib.hid (x01.out.below HB.out (by omega))
  replace Bx0 := Lib.hid (Bx0.out.below HB.out (by omega))
  replace EB := Lib.hid (below_step HB.out EB.out (by omega))
  clear HB
  go_wp2_with fail
  have va0l := Ba0.out.lt
  have va00 := (Ba0.out.2 0 _ rfl).1
  have va01 := (Ba0.out.2 1 _ rfl).1
  have va02 := (Ba0.out.2 2 _ rfl).1
  have va03 := (Ba0.out.2 3 _ rfl).1
  have vx0l := Bx0.out.lt
  have vx00 := (Bx0.out.2 0 _ rfl).1
  have vx01 := (Bx0.out.2 1 _ rfl).1
  have vx02 := (Bx0.out.2 2 _ rfl).1
  have vx03 := (Bx0.out.2 3 _ rfl).1
  go_wp2_with fail
  clear va0l va00 va01 va02 va03 vx0l vx00 vx01 vx02 vx03
  have EC := Lib.hid EB.out
  have xl := Ba0.out.lt
  have x0 := (Ba0.out.2 0 _ rfl).1
  have x1 := (Ba0.out.2 1 _ rfl).1
  have x2 := (Ba0.out.2 2 _ rfl).1
  have x3 := (Ba0.out.2 3 _ rfl).1
  have yl := Bx0.out.lt
  have y0 := (Bx0.out.2 0 _ rfl).1
  have y1 := (Bx0.out.2 1 _ rfl).1
  have y2 := (Bx0.out.2 2 _ rfl).1
  have y3 := (Bx0.out.2 3 _ rfl).1
  go_region_held3 (fun w' => (w'.cell? ⟨w.heap.size, 0, none⟩ = some (.int .i64 (p0)) ∧ w'.cell? ⟨w.heap.size, 1, none⟩ = some (.int .i64 (q0)) ∧ w'.cell? ⟨w.heap.size, 2, none⟩ = some (.int .i64 (yy0)) ∧ w'.cell? ⟨w.heap.size, 3, none⟩ = some (.slice A0 n0 c0)) ∧ (w'.cell? ⟨w4.heap.size, 0, none⟩ = some (.int .i64 (p0)) ∧ w'.cell? ⟨w4.heap.size, 1, none⟩ = some (.int .i64 (q0)) ∧ w'.cell? ⟨w4.heap.size, 2, none⟩ = some (.int .i64 (yy0)) ∧ w'.cell? ⟨w4.heap.size, 3, none⟩ = some (.slice Ax0 nx0 cx0))) (go_keep)
    (first | (go_at_call 28; refine (toAct_any a01.out.drew (by first | omega | (simp; omega) | (simp; done)) hs0 hp0 hq0 hy0).mono ?_; rintro e w7 ⟨Ak, nk, ck, rfl, _, hb, hd0, _⟩; (try simp only [World.size_alloc, World.size_setCell, World.size_drew] at hb hd0); have HB := Lib.hid hb; have HK1 := Lib.hid hd0; have sa := hb.size; (try simp only [World.size_alloc, World.size_setCell, World.size_drew] at sa); have BA := Lib.hid (Ba0.out.drew.below hb (by omega)); have BX := Lib.hid (Bx0.out.drew.below hb (by omega)); clear hb hd0; have x0 := (BA.out.2 0 _ rfl).1; have x1 := (BA.out.2 1 _ rfl).1; have x2 := (BA.out.2 2 _ rfl).1; have x3 := (BA.out.2 3 _ rfl).1; have y0 := (BX.out.2 0 _ rfl).1; have y1 := (BX.out.2 1 _ rfl).1; have y2 := (BX.out.2 2 _ rfl).1; have y3 := (BX.out.2 3 _ rfl).1) | (go_at_call 30; refine (eqAct_same (x01.out.drew.below HB.out (by omega)) HK1.out (by omega) (by omega)).mono ?_; rintro e w8 ⟨rfl, hb⟩; have HC := Lib.hid hb; have sb := hb.size; have CA := Lib.hid (BA.out.below hb (by omega)); have CX := Lib.hid (BX.out.below hb (by omega)); clear hb; have x0 := (CA.out.2 0 _ rfl).1; have x1 := (CA.out.2 1 _ rfl).1; have x2 := (CA.out.2 2 _ rfl).1; have x3 := (CA.out.2 3 _ rfl).1; have y0 := (CX.out.2 0 _ rfl).1; have y1 := (CX.out.2 1 _ rfl).1; have y2 := (CX.out.2 2 _ rfl).1; have y3 := (CX.out.2 3 _ rfl).1))
  have HD : Hid (Below w6.heap.size w6 w8) := below_step HC.out (below_step HB.out (Below.refl _ _).drew (by simp)) (by omega)
  have s8 := HD.out.size
  clear xl x0 x1 x2 x3 yl y0 y1 y2 y3
  replace a01 := Lib.hid (a01.out.below HD.out (by omega))
  replace Ba0 := Lib.hid (Ba0.out.below HD.out (by omega))
  replace x01 := Lib.hid (x01.out.below HD.out (by omega))
  replace Bx0 := Lib.hid (Bx0.out.below HD.out (by omega))
  replace EB := Lib.hid (below_step HD.out EB.out (by omega))
  clear HB HC HD HK1 BA BX CA CX
  go_wp2
  go_ret
  exact ⟨rfl, EB.out⟩

theorem contract (H : Type) (enc : TypeId × Value → H) (W : World) (base : Nat) (args : Array Value) (ds gs : List (DataW H)) (before : List MemPlace)
    (hval : ∀ (j : Nat) t v, Try.f7.params[j]? = some t → args[j]? = some v → Value.okWide Try.prog W .any base t v)
    (hW : DataW.Whole enc Try.prog Try.f7.params.toList Rows.fnExactValidActSpec.vars false W args.toList ds gs before) :
    Calls Try.prog 7 args W fun e W' => ∃ v, e = .returned v ∧ Rows.fnExactValidActSpec.post enc Try.prog Try.f7 false true false false W args v W' := by
  have hW' := hW
  have hlt : ∀ p ∈ before, p.block < W.heap.size := fun p hp => hW.lt p hp
  obtain ⟨p, q, hA0, hV, rfl, hfz, hnd⟩ := hW
  have hA : DataW.TrodAll enc Try.prog W 0 (fun _ => true) true Try.f7.params.toList args.toList ds p := hA0
  rw [Try.params7] at hA hval
  obtain ⟨v0, vs0, d0, ds0, p0, q0, hargs, rfl, rfl, h0, r0⟩ := trodAll_cons hA
  obtain ⟨rfl, rfl, rfl⟩ := trodAll_nil r0
  obtain rfl : args = #[v0] := by cases args; simp_all
  obtain ⟨rfl, rfl⟩ := trodVars_none hV
  obtain ⟨K, N, Z, A, n, c, D, rfl, hD0, hx0, hy0, hu0⟩ := arg_act (hval 0 _ v0 rfl rfl) h0 (fun p hp => hlt p (by simp [hp])) (fun b o hp => hfz b o (by simp [hp]))
  refine (walk _ _ _ _ _ _ _ W hD0 hx0 hy0 hu0).mono fun e W' hh => ?_
  obtain ⟨rfl, hb⟩ := hh
  exact ⟨_, rfl, law_post laidOut (tys_of (by rw [Try.params7]; kernel_rfl)) hW' rfl rfl rfl Try.underlying4 hb⟩

set_option maxRecDepth 100000 in
theorem lifted (os : Os) (started : os.Started) (H : Type) (enc : TypeId × Value → H) :
    ReturnsInHanded {} Try.checked os 7 .any (Rows.fnExactValidActSpec.pre6 enc Try.prog Try.f7 Rows.fnExactValidActRow.domain false) (Rows.fnExactValidActSpec.post enc Try.prog Try.f7 false true false false) := by
  refine returnsInHanded_of_change (C := Try.checked) own started (by kernel_rfl) Try.func7
    (ChangeSpec.witness6 (C := Try.checked) false ⟨#[], #[.agg #[.int .i64 0, .int .i64 0, .int .i64 0, .slice none 0 0]], []⟩ 8 (by kernel_rfl) (by kernel_rfl) (by kernel_rfl) (by kernel_rfl)) ?_
  intro W base args ds gs before hval hW _ _
  exact contract H enc W base args ds gs before hval hW

theorem holds : Rows.FnExactValidActSaid :=
  OpenClaim.holds_of_wide 7 Try.f7 rfl rfl rfl rfl rfl rfl rfl ⟨rfl, rfl, rfl, rfl, rfl⟩ rfl rfl rfl rfl rfl (by kernel_rfl) Try.func7 (by kernel_rfl)
    (of_decide_eq_true (by kernel_rfl)) (by unfold Func.isWrapper; first | (rw [if_pos (by decide +kernel)]; kernel_rfl) | (rw [if_neg (by decide +kernel)]; exact ⟨rfl, rfl⟩))
    (fun os started H enc _ => lifted os started H enc)
end ExactValidAct
end Go.Proofs.Ytdiebkaedjlckaa
