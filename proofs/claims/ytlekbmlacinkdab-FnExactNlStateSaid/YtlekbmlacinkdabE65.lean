/- The exact law of NlState: for all arguments the function answers as its model, and writes into none. -/
import Derived.Test.YtlekbmlacinkdabLawBase
import Derived.Test.YtlekbmlacinkdabN9
set_option maxRecDepth 10000
namespace Go.Proofs.Ytlekbmlacinkdab
open Go.ChangeShapes Go.WideShapes Go.ChangeAt Go.RowKit
set_option linter.unusedSimpArgs false
set_option linter.unusedVariables false
namespace ExactNlState
set_option maxHeartbeats 4000000 in
theorem walk (z0 : Int) (w : World) (hz0 : okInt z0) :
    Calls Try.prog 8 #[.int .i64 z0] w (BoolB true w) := by
  have EB := Lib.hid (Below.refl w.heap.size w)
  go_enter Try.func8, Try.ntmps8
  go_wp2_with fail
  refine (SNlState_any).mono ?_
  rintro e w1 ⟨rfl, hb⟩
  (try simp only [World.size_alloc, World.size_setCell, World.size_drew] at hb)
  have HB := Lib.hid hb
  clear hb
  have s1 := HB.out.size
  (try simp only [World.size_alloc, World.size_setCell, World.size_drew] at s1)
  replace EB := Lib.hid (below_step HB.out EB.out (by omega))
  clear HB
  go_wp2_with fail
  replace EB := Lib.hid (EB.out.alloc (by omega) (.cells #[.bool (nsH z0), .int .i64 (nsS z0)] 25))
  have Bu := Lib.hid (Box.new w1 25 [.bool (nsH z0), .int .i64 (nsS z0)])
  have s2 : w1.heap.size + 1 ≤ (w1.alloc (.cells #[.bool (nsH z0), .int .i64 (nsS z0)] 25)).heap.size := by simp
  generalize w1.alloc (.cells #[.bool (nsH z0), .int .i64 (nsS z0)] 25) = w2 at *
  refine (NlState_any).mono ?_
  rintro e w3 ⟨rfl, hb⟩
  (try simp only [World.size_alloc, World.size_setCell, World.size_drew] at hb)
  have HB := Lib.hid hb
  clear hb
  have s3 := HB.out.size
  (try simp only [World.size_alloc, World.size_setCell, World.size_drew] at s3)
  replace Bu := Lib.hid (Bu.out.below HB.out (by omega))
  replace EB := Lib.hid (below_step HB.out EB.out (by omega))
  clear HB
  have vul := Bu.out.lt
  have vu0 := (Bu.out.2 0 _ rfl).1
  have vu1 := (Bu.out.2 1 _ rfl).1
  go_wp2_with fail
  clear vul vu0 vu1
  replace Bu := Lib.hid (Bu.out.alloc (.cells #[.bool (nsH z0), .int .i64 (nsS z0)] 25))
  replace EB := Lib.hid (EB.out.alloc (by omega) (.cells #[.bool (nsH z0), .int .i64 (nsS z0)] 25))
  have Bg := Lib.hid (Box.new w3 25 [.bool (nsH z0), .int .i64 (nsS z0)])
  have s4 : w3.heap.size + 1 ≤ (w3.alloc (.cells #[.bool (nsH z0), .int .i64 (nsS z0)] 25)).heap.size := by simp
  generalize w3.alloc (.cells #[.bool (nsH z0), .int .i64 (nsS z0)] 25) = w4 at *
  refine (eqNl_same).mono ?_
  rintro e w5 ⟨rfl, hb⟩
  (try simp only [World.size_alloc, World.size_setCell, World.size_drew] at hb)
  have HB := Lib.hid hb
  clear hb
  have s5 := HB.out.size
  (try simp only [World.size_alloc, World.size_setCell, World.size_drew] at s5)
  replace Bu := Lib.hid (Bu.out.below HB.out (by omega))
  replace Bg := Lib.hid (Bg.out.below HB.out (by omega))
  replace EB := Lib.hid (below_step HB.out EB.out (by omega))
  clear HB
  go_wp2
  go_ret
  exact ⟨rfl, EB.out⟩

theorem contract (H : Type) (enc : TypeId × Value → H) (W : World) (base : Nat) (args : Array Value) (ds gs : List (DataW H)) (before : List MemPlace)
    (hval : ∀ (j : Nat) t v, Try.f8.params[j]? = some t → args[j]? = some v → Value.okWide Try.prog W .any base t v)
    (hW : DataW.Whole enc Try.prog Try.f8.params.toList Rows.fnExactNlStateSpec.vars false W args.toList ds gs before) :
    Calls Try.prog 8 args W fun e W' => ∃ v, e = .returned v ∧ Rows.fnExactNlStateSpec.post enc Try.prog Try.f8 false true false false W args v W' := by
  have hW' := hW
  have hlt : ∀ p ∈ before, p.block < W.heap.size := fun p hp => hW.lt p hp
  obtain ⟨p, q, hA0, hV, rfl, hfz, hnd⟩ := hW
  have hA : DataW.TrodAll enc Try.prog W 0 (fun _ => true) true Try.f8.params.toList args.toList ds p := hA0
  rw [Try.params8] at hA hval
  obtain ⟨v0, vs0, d0, ds0, p0, q0, hargs, rfl, rfl, h0, r0⟩ := trodAll_cons hA
  obtain ⟨rfl, rfl, rfl⟩ := trodAll_nil r0
  obtain rfl : args = #[v0] := by cases args; simp_all
  obtain ⟨rfl, rfl⟩ := trodVars_none hV
  obtain ⟨z0, rfl, hz0⟩ := arg_intv (hval 0 _ v0 rfl rfl) h0
  refine (walk _ W hz0).mono fun e W' hh => ?_
  obtain ⟨rfl, hb⟩ := hh
  exact ⟨_, rfl, law_post laidOut (tys_of (by rw [Try.params8]; kernel_rfl)) hW' rfl rfl rfl Try.underlying4 hb⟩

set_option maxRecDepth 100000 in
theorem lifted (os : Os) (started : os.Started) (H : Type) (enc : TypeId × Value → H) :
    ReturnsInHanded {} Try.checked os 8 .any (Rows.fnExactNlStateSpec.pre6 enc Try.prog Try.f8 Rows.fnExactNlStateRow.domain false) (Rows.fnExactNlStateSpec.post enc Try.prog Try.f8 false true false false) := by
  refine returnsInHanded_of_change (C := Try.checked) own started (by kernel_rfl) Try.func8
    (ChangeSpec.witness6 (C := Try.checked) false ⟨#[], #[.int .i64 0], []⟩ 8 (by kernel_rfl) (by kernel_rfl) (by kernel_rfl) (by kernel_rfl)) ?_
  intro W base args ds gs before hval hW _ _
  exact contract H enc W base args ds gs before hval hW

theorem holds : Rows.FnExactNlStateSaid :=
  OpenClaim.holds_of_wide 8 Try.f8 rfl rfl rfl rfl rfl rfl rfl ⟨rfl, rfl, rfl, rfl, rfl⟩ rfl rfl rfl rfl rfl (by kernel_rfl) Try.func8 (by kernel_rfl)
    (of_decide_eq_true (by kernel_rfl)) (by unfold Func.isWrapper; first | (rw [if_pos (by decide +kernel)]; kernel_rfl) | (rw [if_neg (by decide +kernel)]; exact ⟨rfl, rfl⟩))
    (fun os started H enc _ => lifted os started H enc)
end ExactNlState
end Go.Proofs.Ytlekbmlacinkdab
