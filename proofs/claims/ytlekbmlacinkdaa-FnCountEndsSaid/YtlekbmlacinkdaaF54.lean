/- The law of promise 54: the line ends that are counted are the 10s that are told. No conditions. -/
import Derived.Test.YtlekbmlacinkdaaQ2
set_option maxRecDepth 10000
namespace Go.Proofs.Ytlekbmlacinkdaa
open Go.ChangeShapes Go.WideShapes Go.ChangeAt Go.RowKit
set_option linter.unusedSimpArgs false
set_option linter.unusedVariables false
namespace LawCountEnds
set_option maxHeartbeats 8000000 in
theorem walk (A : Option Addr) (n c : Nat) (w : World) (h : BytesIn w w.heap.size A n) (hnc : n ≤ c) (hm : n ≤ 9223372036854775807) :
    Calls Try.prog 7 #[.slice A n c] w (BoolB true w) := by
  have HBY := Lib.hid h
  clear h
  have EB := Lib.hid (Below.refl w.heap.size w)
  by_cases hbig : (1048576 : Int) < (n : Int)
  · go_enter Try.func7, Try.ntmps7
    go_wp2
    go_ret
    exact ⟨rfl, Below.refl _ _⟩
  go_enter Try.func7, Try.ntmps7
  go_wp2_with fail
  refine (DrawCountEnds_any HBY.out (by omega) hnc).mono ?_
  rintro e w1 ⟨Ad, nd, cd, Dd, rfl, hcd, hnd, hb, hl⟩
  (try simp only [World.size_alloc, World.size_setCell, World.size_drew] at hb)
  have HB := Lib.hid hb
  clear hb
  have s1 := HB.out.size
  (try simp only [World.size_alloc, World.size_setCell, World.size_drew] at s1)
  replace EB := Lib.hid (below_step HB.out EB.out (by omega))
  clear HB
  have d1 := Lib.hid hl
  clear hl HBY
  cases hv : bytesB Dd
  · go_wp2_with fail
    refine (to_intN (CountEnds_any d1.out (by omega) hcd) (ce_no hv)).mono ?_
    rintro e w2 ⟨rfl, hb⟩
    (try simp only [World.size_alloc, World.size_setCell, World.size_drew] at hb)
    have HB := Lib.hid hb
    clear hb
    have s2 := HB.out.size
    (try simp only [World.size_alloc, World.size_setCell, World.size_drew] at s2)
    replace d1 := Lib.hid (d1.out.below HB.out (by omega))
    replace EB := Lib.hid (below_step HB.out EB.out (by omega))
    clear HB
    go_wp2_with fail
    refine (to_intN (SCountEnds_any d1.out) (ce_no hv)).mono ?_
    rintro e w3 ⟨rfl, hb⟩
    (try simp only [World.size_alloc, World.size_setCell, World.size_drew] at hb)
    have HB := Lib.hid hb
    clear hb
    have s3 := HB.out.size
    (try simp only [World.size_alloc, World.size_setCell, World.size_drew] at s3)
    replace d1 := Lib.hid (d1.out.below HB.out (by omega))
    replace EB := Lib.hid (below_step HB.out EB.out (by omega))
    clear HB
    go_wp2_with fail
    refine (to_intN (SCountEnds_any d1.out) (ce_no hv)).mono ?_
    rintro e w4 ⟨rfl, hb⟩
    (try simp only [World.size_alloc, World.size_setCell, World.size_drew] at hb)
    have HB := Lib.hid hb
    clear hb
    have s4 := HB.out.size
    (try simp only [World.size_alloc, World.size_setCell, World.size_drew] at s4)
    replace d1 := Lib.hid (d1.out.below HB.out (by omega))
    replace EB := Lib.hid (below_step HB.out EB.out (by omega))
    clear HB
    go_wp2
    go_ret
    exact ⟨rfl, EB.out⟩
  · have HV := Lib.hid hv
    have HCE := Lib.hid (ce_yes hv)
    have HNI := Lib.hid (ni0 hv)
    have hcl : c10 Dd ≤ Dd.length := Nat.le_trans List.count_le_length (nlM_free_len true Dd)
    have hcd0 := d1.out.len
    have hcn : c10 Dd ≤ nd := by omega
    have HCD := Lib.hid hcd0
    clear hv hcd0 hcl
    obtain ⟨ct, hct⟩ : ∃ ct, c10 Dd = ct := ⟨_, rfl⟩
    rw [hct] at HCE hcn
    have HCT := Lib.hid hct
    clear hct
    go_wp2_with fail
    refine (to_intN (CountEnds_any d1.out (by omega) hcd) HCE.out).mono ?_
    rintro e w2 ⟨rfl, hb⟩
    (try simp only [World.size_alloc, World.size_setCell, World.size_drew] at hb)
    have HB := Lib.hid hb
    clear hb
    have s2 := HB.out.size
    (try simp only [World.size_alloc, World.size_setCell, World.size_drew] at s2)
    replace d1 := Lib.hid (d1.out.below HB.out (by omega))
    replace EB := Lib.hid (below_step HB.out EB.out (by omega))
    clear HB
    go_wp2_with fail
    refine (to_intN (SCountEnds_any d1.out) HCE.out).mono ?_
    rintro e w3 ⟨rfl, hb⟩
    (try simp only [World.size_alloc, World.size_setCell, World.size_drew] at hb)
    have HB := Lib.hid hb
    clear hb
    have s3 := HB.out.size
    (try simp only [World.size_alloc, World.size_setCell, World.size_drew] at s3)
    replace d1 := Lib.hid (d1.out.below HB.out (by omega))
    replace EB := Lib.hid (below_step HB.out EB.out (by omega))
    clear HB
    go_wp2_with fail
    refine (to_nl (NewlineIn_any d1.out (by omega) hcd (by unfold okInt; omega)) HNI.out.1 HNI.out.2.1 HNI.out.2.2).mono ?_
    rintro e w4 ⟨Al, nl, cl, rfl, hcl, hb, hl⟩
    (try simp only [World.size_alloc, World.size_setCell, World.size_drew] at hb)
    have HB := Lib.hid hb
    clear hb
    have s4 := HB.out.size
    (try simp only [World.size_alloc, World.size_setCell, World.size_drew] at s4)
    replace d1 := Lib.hid (d1.out.below HB.out (by omega))
    replace EB := Lib.hid (below_step HB.out EB.out (by omega))
    clear HB
    have l1 := Lib.hid hl
    clear hl
    go_wp2_with fail
    replace d1 := Lib.hid (d1.out.alloc (by omega) (.cells #[.bool (false), .int .i64 (nlS true false 0 Dd)] 24))
    replace l1 := Lib.hid (l1.out.alloc (by omega) (.cells #[.bool (false), .int .i64 (nlS true false 0 Dd)] 24))
    replace EB := Lib.hid (EB.out.alloc (by omega) (.cells #[.bool (false), .int .i64 (nlS true false 0 Dd)] 24))
    have Bx := Lib.hid (Box.new w4 24 [.bool (false), .int .i64 (nlS true false 0 Dd)])
    have s5 : w4.heap.size + 1 ≤ (w4.alloc (.cells #[.bool (false), .int .i64 (nlS true false 0 Dd)] 24)).heap.size := by simp
    generalize w4.alloc (.cells #[.bool (false), .int .i64 (nlS true false 0 Dd)] 24) = w5 at *
    have HLL := Lib.hid l1.out.len
    have hnl : nl ≤ nd := by have h1 := HLL.out; have h2 := nlM_free_len true Dd; have h3 := HCD.out; omega
    have HCT2 : Hid ((nlM true false Dd).count 10 = ct) := HCT.out
    go_loop [7, 8] (fun o i => ∃ k : Nat, k ≤ nl ∧ i = .int .i64 k ∧ o = .int .i64 (((((nlM true false Dd).take k).count 10 : Nat)) : Int)) (fun _ i => nl - (intOf i).toNat)
    case atStart => exact ⟨0, Nat.zero_le _, rfl, rfl⟩
    case round =>
      obtain ⟨k, hk, rfl, rfl⟩ := hrel
      have hcl : ((nlM true false Dd).take k).count 10 ≤ k := by have h1 := List.count_le_length (a := (10 : Int)) (l := (nlM true false Dd).take k); rw [List.length_take] at h1; omega
      by_cases hlt : k < nl
      · obtain ⟨b, o, x, rfl, _, hc, hx⟩ := l1.out.at_ hlt
        have HCS := Lib.hid (count_snoc hx.out)
        obtain ⟨q, hq⟩ : ∃ q, ((nlM true false Dd).take k).count 10 = q := ⟨_, rfl⟩
        rw [hq] at hcl HCS ⊢
        clear hq
        by_cases h10 : x = 10
        · subst h10
          go_wp2
          go_round
          case rel => exact ⟨k + 1, by omega, by go_num, by rw [HCS.out]; simp⟩
          case measure => simp [intOf]; omega
        · have e10 : (x == 10) = false := by simp [h10]
          go_wp2
          go_round
          case rel => exact ⟨k + 1, by omega, by go_num, by rw [HCS.out]; simp [h10]⟩
          case measure => simp [intOf]; omega
      · obtain rfl : nl = k := by omega
        have HT : Hid ((nlM true false Dd).take nl = nlM true false Dd) := List.take_of_length_le (by have := HLL.out; omega)
        rw [HT.out] at hcl ⊢
        rw [HCT2.out]
        go_wp2
        go_ret
        exact ⟨ret_bool (by first | (simp; done) | (simp; omega)), EB.out⟩

theorem contract (H : Type) (enc : TypeId × Value → H) (W : World) (base : Nat) (args : Array Value) (ds gs : List (DataW H)) (before : List MemPlace)
    (hval : ∀ (j : Nat) t v, Try.f7.params[j]? = some t → args[j]? = some v → Value.okWide Try.prog W .any base t v)
    (hW : DataW.Whole enc Try.prog Try.f7.params.toList Rows.fnCountEndsSpec.vars false W args.toList ds gs before) :
    Calls Try.prog 7 args W fun e W' => ∃ v, e = .returned v ∧ Rows.fnCountEndsSpec.post enc Try.prog Try.f7 false true false false W args v W' := by
  have hW' := hW
  have hlt : ∀ p ∈ before, p.block < W.heap.size := fun p hp => hW.lt p hp
  obtain ⟨p, q, hA0, hV, rfl, hfz, hnd⟩ := hW
  have hA : DataW.TrodAll enc Try.prog W 0 (fun _ => true) true Try.f7.params.toList args.toList ds p := hA0
  rw [Try.params7] at hA hval
  obtain ⟨v0, vs0, d0, ds0, p0, q0, hargs, rfl, rfl, h0, r0⟩ := trodAll_cons hA
  obtain ⟨rfl, rfl, rfl⟩ := trodAll_nil r0
  obtain rfl : args = #[v0] := by cases args; simp_all
  obtain ⟨rfl, rfl⟩ := trodVars_none hV
  obtain ⟨A, n, c, rfl, hnc, hby, hmx⟩ := arg_bytes (hval 0 _ v0 rfl rfl) h0 (fun p hp => hlt p (by simp [hp]))
  refine (walk A n c W hby hnc hmx).mono fun e W' hh => ?_
  obtain ⟨rfl, hb⟩ := hh
  exact ⟨_, rfl, law_post laidOut (tys_of (by rw [Try.params7]; kernel_rfl)) hW' rfl rfl rfl Try.underlying4 hb⟩

set_option maxRecDepth 100000 in
theorem lifted (os : Os) (started : os.Started) (H : Type) (enc : TypeId × Value → H) :
    ReturnsInHanded {} Try.checked os 7 .any (Rows.fnCountEndsSpec.pre6 enc Try.prog Try.f7 Rows.fnCountEndsRow.domain false) (Rows.fnCountEndsSpec.post enc Try.prog Try.f7 false true false false) := by
  refine returnsInHanded_of_change (C := Try.checked) own started (by kernel_rfl) Try.func7
    (ChangeSpec.witness6 (C := Try.checked) false ⟨#[], #[.slice none 0 0], []⟩ 8 (by kernel_rfl) (by kernel_rfl) (by kernel_rfl) (by kernel_rfl)) ?_
  intro W base args ds gs before hval hW _ _
  exact contract H enc W base args ds gs before hval hW

theorem holds : Rows.FnCountEndsSaid :=
  OpenClaim.holds_of_wide 7 Try.f7 rfl rfl rfl rfl rfl rfl rfl ⟨rfl, rfl, rfl, rfl, rfl⟩ rfl rfl rfl rfl rfl (by kernel_rfl) Try.func7 (by kernel_rfl)
    (of_decide_eq_true (by kernel_rfl)) (by unfold Func.isWrapper; first | (rw [if_pos (by decide +kernel)]; kernel_rfl) | (rw [if_neg (by decide +kernel)]; exact ⟨rfl, rfl⟩))
    (fun os started H enc _ => lifted os started H enc)
end LawCountEnds
end Go.Proofs.Ytlekbmlacinkdaa
