/- The exact law of CleanPoints: for all arguments the function answers as its model, and writes into none. -/
import Derived.Test.YtlhbodamdjbahaaLawBase
import Derived.Test.YtlhbodamdjbahaaVD
set_option maxRecDepth 10000
namespace Go.Proofs.Ytlhbodamdjbahaa
open Go.ChangeShapes Go.WideShapes Go.ChangeAt Go.RowKit
set_option linter.unusedSimpArgs false
set_option linter.unusedVariables false
namespace ExactCleanPoints
set_option maxHeartbeats 16000000 in
theorem walk (A0 : Option Addr) (n0 c0 : Nat) (D0 : List Int) (w : World) (h0 : Ints w 0 w.heap.size A0 n0 D0) :
    Calls Try.prog 4 #[.slice A0 n0 c0] w (BoolB true w) := by
  have HLa0 := Lib.hid h0.len
  have hm0 := h0.max
  have a01 := Lib.hid h0
  clear h0
  have EB := Lib.hid (Below.refl w.heap.size w)
  go_enter Try.func4, Try.ntmps4
  go_wp2_with fail
  · go_ret
    exact ⟨rfl, Below.refl _ _⟩
  have hn0 : n0 ≤ 1048576 := by omega
  go_wp2_with fail
  refine (toIntS_b a01.out (by omega) hn0).mono ?_
  rintro e w1 ⟨At0, ct0, rfl, hct0, hb, hd⟩
  (try simp only [World.size_alloc, World.size_setCell, World.size_drew] at hb)
  have HB := Lib.hid hb
  clear hb
  have s1 := HB.out.size
  (try simp only [World.size_alloc, World.size_setCell, World.size_drew] at s1)
  replace a01 := Lib.hid (a01.out.below HB.out (by omega))
  replace EB := Lib.hid (below_step HB.out EB.out (by omega))
  clear HB
  have t01 := Lib.hid hd
  clear hd
  go_wp2_with fail
  refine (SCleanPoints_x t01.out (by omega) hct0 hn0).mono ?_
  rintro e w2 ⟨Lu, mu, du, rfl, _, hb, hl⟩
  (try simp only [World.size_alloc, World.size_setCell, World.size_drew] at hb)
  have HB := Lib.hid hb
  clear hb
  have s2 := HB.out.size
  (try simp only [World.size_alloc, World.size_setCell, World.size_drew] at s2)
  replace a01 := Lib.hid (a01.out.below HB.out (by omega))
  replace t01 := Lib.hid (t01.out.below HB.out (by omega))
  replace EB := Lib.hid (below_step HB.out EB.out (by omega))
  clear HB
  have u1 := Lib.hid hl
  clear hl
  obtain ⟨hx0⟩ := And.intro (clOut_le D0) trivial
  have hl_u1 : mu ≤ 1048576 := by have := u1.out.len; omega
  clear hx0
  clear t01
  go_wp2_with fail
  refine (toIntS_b a01.out (by omega) hn0).mono ?_
  rintro e w3 ⟨Ax0, cx0, rfl, hcx0, hb, hd⟩
  (try simp only [World.size_alloc, World.size_setCell, World.size_drew] at hb)
  have HB := Lib.hid hb
  clear hb
  have s3 := HB.out.size
  (try simp only [World.size_alloc, World.size_setCell, World.size_drew] at s3)
  replace a01 := Lib.hid (a01.out.below HB.out (by omega))
  replace u1 := Lib.hid (u1.out.below HB.out (by omega))
  replace EB := Lib.hid (below_step HB.out EB.out (by omega))
  clear HB
  have x01 := Lib.hid hd
  clear hd
  go_wp2_with fail
  refine (CleanPoints_x x01.out (by omega) hcx0 hn0).mono ?_
  rintro e w4 ⟨Lg, mg, dg, rfl, _, hb, hl⟩
  (try simp only [World.size_alloc, World.size_setCell, World.size_drew] at hb)
  have HB := Lib.hid hb
  clear hb
  have s4 := HB.out.size
  (try simp only [World.size_alloc, World.size_setCell, World.size_drew] at s4)
  replace a01 := Lib.hid (a01.out.below HB.out (by omega))
  replace u1 := Lib.hid (u1.out.below HB.out (by omega))
  replace x01 := Lib.hid (x01.out.below HB.out (by omega))
  replace EB := Lib.hid (below_step HB.out EB.out (by omega))
  clear HB
  have g1 := Lib.hid hl
  clear hl
  obtain ⟨hx0⟩ := And.intro (clOut_le D0) trivial
  have hl_g1 : mg ≤ 1048576 := by have := g1.out.len; omega
  clear hx0
  go_wp2_with fail
  refine (eqIntS_same g1.out u1.out).mono ?_
  rintro e w5 ⟨rfl, hb⟩
  (try simp only [World.size_alloc, World.size_setCell, World.size_drew] at hb)
  have HB := Lib.hid hb
  clear hb
  have s5 := HB.out.size
  (try simp only [World.size_alloc, World.size_setCell, World.size_drew] at s5)
  replace a01 := Lib.hid (a01.out.below HB.out (by omega))
  replace u1 := Lib.hid (u1.out.below HB.out (by omega))
  replace x01 := Lib.hid (x01.out.below HB.out (by omega))
  replace g1 := Lib.hid (g1.out.below HB.out (by omega))
  replace EB := Lib.hid (below_step HB.out EB.out (by omega))
  clear HB
  go_wp2_with fail
  refine (toIntS_b a01.out (by omega) hn0).mono ?_
  rintro e w6 ⟨Ak0, ck0, rfl, hck0, hb, hd⟩
  (try simp only [World.size_alloc, World.size_setCell, World.size_drew] at hb)
  have HB := Lib.hid hb
  clear hb
  have s6 := HB.out.size
  (try simp only [World.size_alloc, World.size_setCell, World.size_drew] at s6)
  replace a01 := Lib.hid (a01.out.below HB.out (by omega))
  replace u1 := Lib.hid (u1.out.below HB.out (by omega))
  replace x01 := Lib.hid (x01.out.below HB.out (by omega))
  replace g1 := Lib.hid (g1.out.below HB.out (by omega))
  replace EB := Lib.hid (below_step HB.out EB.out (by omega))
  clear HB
  have k01 := Lib.hid hd
  clear hd
  go_wp2_with fail
  refine (eqIntS_same x01.out k01.out).mono ?_
  rintro e w7 ⟨rfl, hb⟩
  (try simp only [World.size_alloc, World.size_setCell, World.size_drew] at hb)
  have HB := Lib.hid hb
  clear hb
  have s7 := HB.out.size
  (try simp only [World.size_alloc, World.size_setCell, World.size_drew] at s7)
  replace a01 := Lib.hid (a01.out.below HB.out (by omega))
  replace u1 := Lib.hid (u1.out.below HB.out (by omega))
  replace x01 := Lib.hid (x01.out.below HB.out (by omega))
  replace g1 := Lib.hid (g1.out.below HB.out (by omega))
  replace k01 := Lib.hid (k01.out.below HB.out (by omega))
  replace EB := Lib.hid (below_step HB.out EB.out (by omega))
  clear HB
  clear k01
  go_wp2_with fail
  refine (markIntS_any x01.out (by omega) (by omega) hn0).mono ?_
  rintro e w8 ⟨rfl, hm, hi0⟩
  have HM := Lib.hid hm
  have s8 := HM.out.size
  clear hm
  replace EB := Lib.hid (below_mark EB.out HM.out x01.out (by omega))
  replace a01 := Lib.hid (a01.out.mark HM.out (Apart.of_le a01.out x01.out (by omega)).symm)
  replace u1 := Lib.hid (u1.out.mark HM.out (Apart.of_le u1.out x01.out (by omega)).symm)
  replace g1 := Lib.hid (g1.out.mark HM.out (Apart.of_le x01.out g1.out (by omega)))
  replace x01 := Lib.hid hi0
  clear HM hi0
  clear x01
  go_wp2_with fail
  refine (eqIntS_same g1.out u1.out).mono ?_
  rintro e w9 ⟨rfl, hb⟩
  (try simp only [World.size_alloc, World.size_setCell, World.size_drew] at hb)
  have HB := Lib.hid hb
  clear hb
  have s9 := HB.out.size
  (try simp only [World.size_alloc, World.size_setCell, World.size_drew] at s9)
  replace a01 := Lib.hid (a01.out.below HB.out (by omega))
  replace u1 := Lib.hid (u1.out.below HB.out (by omega))
  replace g1 := Lib.hid (g1.out.below HB.out (by omega))
  replace EB := Lib.hid (below_step HB.out EB.out (by omega))
  clear HB
  go_wp2_with fail
  refine (markIntS_any g1.out (by omega) (by omega) hl_g1).mono ?_
  rintro e w10 ⟨rfl, hm, hi0⟩
  have HM := Lib.hid hm
  have s10 := HM.out.size
  clear hm
  replace EB := Lib.hid (below_mark EB.out HM.out g1.out (by omega))
  replace a01 := Lib.hid (a01.out.mark HM.out (Apart.of_le a01.out g1.out (by omega)).symm)
  replace u1 := Lib.hid (u1.out.mark HM.out (Apart.of_le u1.out g1.out (by omega)).symm)
  replace g1 := Lib.hid hi0
  clear HM hi0
  go_wp2_with fail
  refine (heldIntS_b g1.out (by omega) (by omega) hl_g1).mono ?_
  rintro e w11 ⟨rfl, hb⟩
  (try simp only [World.size_alloc, World.size_setCell, World.size_drew] at hb)
  have HB := Lib.hid hb
  clear hb
  have s11 := HB.out.size
  (try simp only [World.size_alloc, World.size_setCell, World.size_drew] at s11)
  replace a01 := Lib.hid (a01.out.below HB.out (by omega))
  replace u1 := Lib.hid (u1.out.below HB.out (by omega))
  replace g1 := Lib.hid (g1.out.below HB.out (by omega))
  replace EB := Lib.hid (below_step HB.out EB.out (by omega))
  clear HB
  go_wp2_with fail
  refine (toIntS_b a01.out (by omega) hn0).mono ?_
  rintro e w12 ⟨Ar0, cr0, rfl, hcr0, hb, hd⟩
  (try simp only [World.size_alloc, World.size_setCell, World.size_drew] at hb)
  have HB := Lib.hid hb
  clear hb
  have s12 := HB.out.size
  (try simp only [World.size_alloc, World.size_setCell, World.size_drew] at s12)
  replace a01 := Lib.hid (a01.out.below HB.out (by omega))
  replace u1 := Lib.hid (u1.out.below HB.out (by omega))
  replace g1 := Lib.hid (g1.out.below HB.out (by omega))
  replace EB := Lib.hid (below_step HB.out EB.out (by omega))
  clear HB
  have r01 := Lib.hid hd
  clear hd
  go_wp2_with fail
  refine (CleanPoints_x r01.out (by omega) hcr0 hn0).mono ?_
  rintro e w13 ⟨Lh, mh, dh, rfl, _, hb, hl⟩
  (try simp only [World.size_alloc, World.size_setCell, World.size_drew] at hb)
  have HB := Lib.hid hb
  clear hb
  have s13 := HB.out.size
  (try simp only [World.size_alloc, World.size_setCell, World.size_drew] at s13)
  replace a01 := Lib.hid (a01.out.below HB.out (by omega))
  replace u1 := Lib.hid (u1.out.below HB.out (by omega))
  replace g1 := Lib.hid (g1.out.below HB.out (by omega))
  replace r01 := Lib.hid (r01.out.below HB.out (by omega))
  replace EB := Lib.hid (below_step HB.out EB.out (by omega))
  clear HB
  have h1 := Lib.hid hl
  clear hl
  obtain ⟨hx0⟩ := And.intro (clOut_le D0) trivial
  have hl_h1 : mh ≤ 1048576 := by have := h1.out.len; omega
  clear hx0
  clear r01
  go_wp2_with fail
  refine (eqIntS_same h1.out u1.out).mono ?_
  rintro e w14 ⟨rfl, hb⟩
  (try simp only [World.size_alloc, World.size_setCell, World.size_drew] at hb)
  have HB := Lib.hid hb
  clear hb
  have s14 := HB.out.size
  (try simp only [World.size_alloc, World.size_setCell, World.size_drew] at s14)
  replace a01 := Lib.hid (a01.out.below HB.out (by omega))
  replace u1 := Lib.hid (u1.out.below HB.out (by omega))
  replace g1 := Lib.hid (g1.out.below HB.out (by omega))
  replace h1 := Lib.hid (h1.out.below HB.out (by omega))
  replace EB := Lib.hid (below_step HB.out EB.out (by omega))
  clear HB
  go_wp2_with fail
  refine (heldIntS_b g1.out (by omega) (by omega) hl_g1).mono ?_
  rintro e w15 ⟨rfl, hb⟩
  (try simp only [World.size_alloc, World.size_setCell, World.size_drew] at hb)
  have HB := Lib.hid hb
  clear hb
  have s15 := HB.out.size
  (try simp only [World.size_alloc, World.size_setCell, World.size_drew] at s15)
  replace a01 := Lib.hid (a01.out.below HB.out (by omega))
  replace u1 := Lib.hid (u1.out.below HB.out (by omega))
  replace g1 := Lib.hid (g1.out.below HB.out (by omega))
  replace h1 := Lib.hid (h1.out.below HB.out (by omega))
  replace EB := Lib.hid (below_step HB.out EB.out (by omega))
  clear HB
  go_wp2
  go_ret
  exact ⟨rfl, EB.out⟩

theorem contract (H : Type) (enc : TypeId × Value → H) (W : World) (base : Nat) (args : Array Value) (ds gs : List (DataW H)) (before : List MemPlace)
    (hval : ∀ (j : Nat) t v, Try.f4.params[j]? = some t → args[j]? = some v → Value.okWide Try.prog W .any base t v)
    (hW : DataW.Whole enc Try.prog Try.f4.params.toList Rows.fnExactCleanPointsSpec.vars false W args.toList ds gs before) :
    Calls Try.prog 4 args W fun e W' => ∃ v, e = .returned v ∧ Rows.fnExactCleanPointsSpec.post enc Try.prog Try.f4 false true false false W args v W' := by
  have hW' := hW
  have hlt : ∀ p ∈ before, p.block < W.heap.size := fun p hp => hW.lt p hp
  obtain ⟨p, q, hA0, hV, rfl, hfz, hnd⟩ := hW
  have hA : DataW.TrodAll enc Try.prog W 0 (fun _ => true) true Try.f4.params.toList args.toList ds p := hA0
  rw [Try.params4] at hA hval
  obtain ⟨v0, vs0, d0, ds0, p0, q0, hargs, rfl, rfl, h0, r0⟩ := trodAll_cons hA
  obtain ⟨rfl, rfl, rfl⟩ := trodAll_nil r0
  obtain rfl : args = #[v0] := by cases args; simp_all
  obtain ⟨rfl, rfl⟩ := trodVars_none hV
  obtain ⟨A, n, c, D, rfl, _, hD0⟩ := arg_intsv (hval 0 _ v0 rfl rfl) h0 (fun p hp => hlt p (by simp [hp])) (fun b o hp => hfz b o (by simp [hp]))
  refine (walk _ _ _ _ W hD0).mono fun e W' hh => ?_
  obtain ⟨rfl, hb⟩ := hh
  exact ⟨_, rfl, law_post laidOut (tys_of (by rw [Try.params4]; kernel_rfl)) hW' rfl rfl rfl Try.underlying4 hb⟩

set_option maxRecDepth 100000 in
theorem lifted (os : Os) (started : os.Started) (H : Type) (enc : TypeId × Value → H) :
    ReturnsInHanded {} Try.checked os 4 .any (Rows.fnExactCleanPointsSpec.pre6 enc Try.prog Try.f4 Rows.fnExactCleanPointsRow.domain false) (Rows.fnExactCleanPointsSpec.post enc Try.prog Try.f4 false true false false) := by
  refine returnsInHanded_of_change (C := Try.checked) own started (by kernel_rfl) Try.func4
    (ChangeSpec.witness6 (C := Try.checked) false ⟨#[], #[.slice none 0 0], []⟩ 8 (by kernel_rfl) (by kernel_rfl) (by kernel_rfl) (by kernel_rfl)) ?_
  intro W base args ds gs before hval hW _ _
  exact contract H enc W base args ds gs before hval hW

theorem holds : Rows.FnExactCleanPointsSaid :=
  OpenClaim.holds_of_wide 4 Try.f4 rfl rfl rfl rfl rfl rfl rfl ⟨rfl, rfl, rfl, rfl, rfl⟩ rfl rfl rfl rfl rfl (by kernel_rfl) Try.func4 (by kernel_rfl)
    (of_decide_eq_true (by kernel_rfl)) (by unfold Func.isWrapper; first | (rw [if_pos (by decide +kernel)]; kernel_rfl) | (rw [if_neg (by decide +kernel)]; exact ⟨rfl, rfl⟩))
    (fun os started H enc _ => lifted os started H enc)
end ExactCleanPoints
end Go.Proofs.Ytlhbodamdjbahaa
