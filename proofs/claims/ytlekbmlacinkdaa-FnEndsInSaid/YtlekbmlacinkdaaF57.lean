/- The law of promise 57: the line ends that are met are none exactly if none is counted, and are what a state has seen. No conditions. -/
import Derived.Test.YtlekbmlacinkdaaQ2
set_option maxRecDepth 10000
namespace Go.Proofs.Ytlekbmlacinkdaa
open Go.ChangeShapes Go.WideShapes Go.ChangeAt Go.RowKit
set_option linter.unusedSimpArgs false
set_option linter.unusedVariables false
namespace LawEndsIn
set_option maxHeartbeats 8000000 in
theorem walk (A : Option Addr) (n c : Nat) (w : World) (h : BytesIn w w.heap.size A n) (hnc : n ≤ c) (hm : n ≤ 9223372036854775807) :
    Calls Try.prog 10 #[.slice A n c] w (BoolB true w) := by
  have HBY := Lib.hid h
  clear h
  have EB := Lib.hid (Below.refl w.heap.size w)
  by_cases hbig : (1048576 : Int) < (n : Int)
  · go_enter Try.func10, Try.ntmps10
    go_wp2
    go_ret
    exact ⟨rfl, Below.refl _ _⟩
  go_enter Try.func10, Try.ntmps10
  go_wp2_with fail
  refine (DrawEndsIn_any HBY.out (by omega) hnc).mono ?_
  rintro e w1 ⟨Ad, nd, cd, Dd, rfl, hcd, hnd, hb, hl⟩
  (try simp only [World.size_alloc, World.size_setCell, World.size_drew] at hb)
  have HB := Lib.hid hb
  clear hb
  have s1 := HB.out.size
  (try simp only [World.size_alloc, World.size_setCell, World.size_drew] at s1)
  replace EB := Lib.hid (below_step HB.out EB.out (by omega))
  clear HB
  have d1 := Lib.hid hl
  clear hl HBY
  cases hv : bytesB Dd
  · go_wp2_with fail
    refine (to_intN (EndsIn_any d1.out (by omega) hcd) (ei_no hv)).mono ?_
    rintro e w2 ⟨rfl, hb⟩
    (try simp only [World.size_alloc, World.size_setCell, World.size_drew] at hb)
    have HB := Lib.hid hb
    clear hb
    have s2 := HB.out.size
    (try simp only [World.size_alloc, World.size_setCell, World.size_drew] at s2)
    replace d1 := Lib.hid (d1.out.below HB.out (by omega))
    replace EB := Lib.hid (below_step HB.out EB.out (by omega))
    clear HB
    go_wp2_with fail
    refine (to_intN (SEndsIn_any d1.out) (ei_no hv)).mono ?_
    rintro e w3 ⟨rfl, hb⟩
    (try simp only [World.size_alloc, World.size_setCell, World.size_drew] at hb)
    have HB := Lib.hid hb
    clear hb
    have s3 := HB.out.size
    (try simp only [World.size_alloc, World.size_setCell, World.size_drew] at s3)
    replace d1 := Lib.hid (d1.out.below HB.out (by omega))
    replace EB := Lib.hid (below_step HB.out EB.out (by omega))
    clear HB
    go_wp2_with fail
    refine (to_intN (SEndsIn_any d1.out) (ei_no hv)).mono ?_
    rintro e w4 ⟨rfl, hb⟩
    (try simp only [World.size_alloc, World.size_setCell, World.size_drew] at hb)
    have HB := Lib.hid hb
    clear hb
    have s4 := HB.out.size
    (try simp only [World.size_alloc, World.size_setCell, World.size_drew] at s4)
    replace d1 := Lib.hid (d1.out.below HB.out (by omega))
    replace EB := Lib.hid (below_step HB.out EB.out (by omega))
    clear HB
    go_wp2
    go_ret
    exact ⟨rfl, EB.out⟩
  · have hiff := ei_ce hv
    have hei := ei_yes hv
    have hin := nlS_in true Dd false 0 (by omega) (by omega)
    have HV := Lib.hid hv
    have HCE := Lib.hid (ce_yes hv)
    have HNI := Lib.hid (ni0 hv)
    have hcl : c10 Dd ≤ Dd.length := Nat.le_trans List.count_le_length (nlM_free_len true Dd)
    have hcd0 := d1.out.len
    have hcn : c10 Dd ≤ nd := by omega
    have HCD := Lib.hid hcd0
    clear hv hcd0 hcl
    obtain ⟨ct, hct⟩ : ∃ ct, c10 Dd = ct := ⟨_, rfl⟩
    rw [hct] at HCE hcn
    have HCT := Lib.hid hct
    clear hct
    obtain ⟨E, hE⟩ : ∃ E, nlS true false 0 Dd = E := ⟨_, rfl⟩
    rw [hE] at hei hin
    rw [hei, HCE.out] at hiff
    have HEI := Lib.hid hei
    have HNI2 : Hid (niS false true 0 Dd = E) := HNI.out.2.1.trans hE
    clear hei hE
    go_wp2_with fail
    refine (to_intN (EndsIn_any d1.out (by omega) hcd) HEI.out).mono ?_
    rintro e w2 ⟨rfl, hb⟩
    (try simp only [World.size_alloc, World.size_setCell, World.size_drew] at hb)
    have HB := Lib.hid hb
    clear hb
    have s2 := HB.out.size
    (try simp only [World.size_alloc, World.size_setCell, World.size_drew] at s2)
    replace d1 := Lib.hid (d1.out.below HB.out (by omega))
    replace EB := Lib.hid (below_step HB.out EB.out (by omega))
    clear HB
    go_wp2_with fail
    refine (to_intN (SEndsIn_any d1.out) HEI.out).mono ?_
    rintro e w3 ⟨rfl, hb⟩
    (try simp only [World.size_alloc, World.size_setCell, World.size_drew] at hb)
    have HB := Lib.hid hb
    clear hb
    have s3 := HB.out.size
    (try simp only [World.size_alloc, World.size_setCell, World.size_drew] at s3)
    replace d1 := Lib.hid (d1.out.below HB.out (by omega))
    replace EB := Lib.hid (below_step HB.out EB.out (by omega))
    clear HB
    go_wp2_with fail
    refine (to_nl (NewlineIn_any d1.out (by omega) hcd (by unfold okInt; omega)) HNI.out.1 HNI2.out HNI.out.2.2).mono ?_
    rintro e w4 ⟨Al, nl, cl, rfl, hcl, hb, hl⟩
    (try simp only [World.size_alloc, World.size_setCell, World.size_drew] at hb)
    have HB := Lib.hid hb
    clear hb
    have s4 := HB.out.size
    (try simp only [World.size_alloc, World.size_setCell, World.size_drew] at s4)
    replace d1 := Lib.hid (d1.out.below HB.out (by omega))
    replace EB := Lib.hid (below_step HB.out EB.out (by omega))
    clear HB
    have l1 := Lib.hid hl
    clear hl
    go_wp2_with fail
    replace d1 := Lib.hid (d1.out.alloc (by omega) (.cells #[.bool (false), .int .i64 (E)] 24))
    replace l1 := Lib.hid (l1.out.alloc (by omega) (.cells #[.bool (false), .int .i64 (E)] 24))
    replace EB := Lib.hid (EB.out.alloc (by omega) (.cells #[.bool (false), .int .i64 (E)] 24))
    have Bx := Lib.hid (Box.new w4 24 [.bool (false), .int .i64 (E)])
    have s5 : w4.heap.size + 1 ≤ (w4.alloc (.cells #[.bool (false), .int .i64 (E)] 24)).heap.size := by simp
    generalize w4.alloc (.cells #[.bool (false), .int .i64 (E)] 24) = w5 at *
    refine (to_intN (CountEnds_any d1.out (by omega) hcd) HCE.out).mono ?_
    rintro e w6 ⟨rfl, hb⟩
    (try simp only [World.size_alloc, World.size_setCell, World.size_drew] at hb)
    have HB := Lib.hid hb
    clear hb
    have s6 := HB.out.size
    (try simp only [World.size_alloc, World.size_setCell, World.size_drew] at s6)
    replace d1 := Lib.hid (d1.out.below HB.out (by omega))
    replace l1 := Lib.hid (l1.out.below HB.out (by omega))
    replace Bx := Lib.hid (Bx.out.below HB.out (by omega))
    replace EB := Lib.hid (below_step HB.out EB.out (by omega))
    clear HB
    have hfin : (E == 0) = (((ct : Nat) : Int) == 0) := by by_cases h0 : E = 0; (have := hiff.1 h0; simp [h0, this]); (have h2 : ¬ ((ct : Nat) : Int) = 0 := fun h => h0 (hiff.2 h); rw [beq_eq_false_iff_ne.2 h0, beq_eq_false_iff_ne.2 h2])
    clear hiff
    go_wp2
    go_ret
    exact ⟨ret_bool (by simp [hfin]), EB.out⟩

theorem contract (H : Type) (enc : TypeId × Value → H) (W : World) (base : Nat) (args : Array Value) (ds gs : List (DataW H)) (before : List MemPlace)
    (hval : ∀ (j : Nat) t v, Try.f10.params[j]? = some t → args[j]? = some v → Value.okWide Try.prog W .any base t v)
    (hW : DataW.Whole enc Try.prog Try.f10.params.toList Rows.fnEndsInSpec.vars false W args.toList ds gs before) :
    Calls Try.prog 10 args W fun e W' => ∃ v, e = .returned v ∧ Rows.fnEndsInSpec.post enc Try.prog Try.f10 false true false false W args v W' := by
  have hW' := hW
  have hlt : ∀ p ∈ before, p.block < W.heap.size := fun p hp => hW.lt p hp
  obtain ⟨p, q, hA0, hV, rfl, hfz, hnd⟩ := hW
  have hA : DataW.TrodAll enc Try.prog W 0 (fun _ => true) true Try.f10.params.toList args.toList ds p := hA0
  rw [Try.params10] at hA hval
  obtain ⟨v0, vs0, d0, ds0, p0, q0, hargs, rfl, rfl, h0, r0⟩ := trodAll_cons hA
  obtain ⟨rfl, rfl, rfl⟩ := trodAll_nil r0
  obtain rfl : args = #[v0] := by cases args; simp_all
  obtain ⟨rfl, rfl⟩ := trodVars_none hV
  obtain ⟨A, n, c, rfl, hnc, hby, hmx⟩ := arg_bytes (hval 0 _ v0 rfl rfl) h0 (fun p hp => hlt p (by simp [hp]))
  refine (walk A n c W hby hnc hmx).mono fun e W' hh => ?_
  obtain ⟨rfl, hb⟩ := hh
  exact ⟨_, rfl, law_post laidOut (tys_of (by rw [Try.params10]; kernel_rfl)) hW' rfl rfl rfl Try.underlying4 hb⟩

set_option maxRecDepth 100000 in
theorem lifted (os : Os) (started : os.Started) (H : Type) (enc : TypeId × Value → H) :
    ReturnsInHanded {} Try.checked os 10 .any (Rows.fnEndsInSpec.pre6 enc Try.prog Try.f10 Rows.fnEndsInRow.domain false) (Rows.fnEndsInSpec.post enc Try.prog Try.f10 false true false false) := by
  refine returnsInHanded_of_change (C := Try.checked) own started (by kernel_rfl) Try.func10
    (ChangeSpec.witness6 (C := Try.checked) false ⟨#[], #[.slice none 0 0], []⟩ 8 (by kernel_rfl) (by kernel_rfl) (by kernel_rfl) (by kernel_rfl)) ?_
  intro W base args ds gs before hval hW _ _
  exact contract H enc W base args ds gs before hval hW

theorem holds : Rows.FnEndsInSaid :=
  OpenClaim.holds_of_wide 10 Try.f10 rfl rfl rfl rfl rfl rfl rfl ⟨rfl, rfl, rfl, rfl, rfl⟩ rfl rfl rfl rfl rfl (by kernel_rfl) Try.func10 (by kernel_rfl)
    (of_decide_eq_true (by kernel_rfl)) (by unfold Func.isWrapper; first | (rw [if_pos (by decide +kernel)]; kernel_rfl) | (rw [if_neg (by decide +kernel)]; exact ⟨rfl, rfl⟩))
    (fun os started H enc _ => lifted os started H enc)
end LawEndsIn
end Go.Proofs.Ytlekbmlacinkdaa
