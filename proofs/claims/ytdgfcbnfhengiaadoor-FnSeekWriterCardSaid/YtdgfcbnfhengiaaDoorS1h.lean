/- Contracts of the model's SeekDevice. -/
import Derived.Test.YtdgfcbnfhengiaaDoorC1h
namespace Go.Proofs.YtdgfcbnfhengiaaDoor
open Go.ChangeShapes Go.WideShapes Go.ChangeAt Go.RowKit
set_option linter.unusedSimpArgs false
set_option linter.unusedVariables false

set_option maxHeartbeats 1000000 in
theorem goodSeek_any {off wh : Int} {w : World} :
    Calls Tryd.prog 67 #[.int .i64 off, .int .i64 wh] w fun e w' => e = .returned (.bool (inB off (-60) 60 && inB wh 0 2)) ∧ w = w' := by
  go_enter Tryd.func67, Tryd.ntmps67
  go_wp2_with (go_at_call 71; refine (inRange_any).mono ?_; rintro e w' ⟨rfl, rfl⟩)
  all_goals
    go_ret
    refine ⟨ret_bool ?_, rfl⟩
    simp [*]

set_option maxHeartbeats 1000000 in
theorem placeFor_any {off wh now size : Int} {w : World} (hs0 : 0 ≤ size) (hs : size ≤ 60) (hn0 : 0 ≤ now) (hn1 : now ≤ 60) (hg : (inB off (-60) 60 && inB wh 0 2) = true) :
    Calls Tryd.prog 68 #[.int .i64 size, .int .i64 now, .int .i64 off, .int .i64 wh] w fun e w' => e = .returned (.int .i64 ((seekAt size now off wh).getD (-1))) ∧ w = w' := by
  have hg2 := hg
  simp only [Bool.and_eq_true, inB_iff] at hg2
  obtain ⟨⟨ho1, ho2⟩, hw1, hw2⟩ := hg2
  have ret : ∀ r : Option Int, seekAt size now off wh = r → ∀ a, a = r.getD (-1) → Ending.returned (.int .i64 a) = .returned (.int .i64 ((seekAt size now off wh).getD (-1))) := by
    intro r hr a ha
    rw [hr, ha]
  have RET := Lib.hid ret
  clear ret
  rcases (by omega : wh = 0 ∨ wh = 1 ∨ wh = 2) with rfl | rfl | rfl
  · cases h2 : inB off 0 60
    · have e0 : seekAt size now off 0 = none := by unfold seekAt; rw [if_pos hg]; simp [h2]
      have E0 := Lib.hid e0
      clear e0 hg
      go_enter Tryd.func68, Tryd.ntmps68
      go_wp2_with (go_at_call 71; refine (inRange_any).mono ?_; rintro e w' ⟨rfl, rfl⟩)
      go_ret
      exact ⟨RET.out none E0.out _ rfl, rfl⟩
    · have e0 : seekAt size now off 0 = some off := by unfold seekAt; rw [if_pos hg]; simp [h2]
      have E0 := Lib.hid e0
      clear e0 hg
      go_enter Tryd.func68, Tryd.ntmps68
      go_wp2_with (go_at_call 71; refine (inRange_any).mono ?_; rintro e w' ⟨rfl, rfl⟩)
      go_ret
      exact ⟨RET.out _ E0.out _ rfl, rfl⟩
  · cases h2 : inB (now + off) 0 60
    · have e0 : seekAt size now off 1 = none := by unfold seekAt; rw [if_pos hg]; simp [h2]
      have E0 := Lib.hid e0
      clear e0 hg
      go_enter Tryd.func68, Tryd.ntmps68
      go_wp2_with (go_at_call 71; refine (inRange_any).mono ?_; rintro e w' ⟨rfl, rfl⟩)
      go_ret
      exact ⟨RET.out none E0.out _ rfl, rfl⟩
    · have e0 : seekAt size now off 1 = some (now + off) := by unfold seekAt; rw [if_pos hg]; simp [h2]
      have E0 := Lib.hid e0
      clear e0 hg
      go_enter Tryd.func68, Tryd.ntmps68
      go_wp2_with (go_at_call 71; refine (inRange_any).mono ?_; rintro e w' ⟨rfl, rfl⟩)
      go_ret
      exact ⟨RET.out _ E0.out _ rfl, rfl⟩
  · cases h2 : inB (size + off) 0 60
    · have e0 : seekAt size now off 2 = none := by unfold seekAt; rw [if_pos hg]; simp [h2]
      have E0 := Lib.hid e0
      clear e0 hg
      go_enter Tryd.func68, Tryd.ntmps68
      go_wp2_with (go_at_call 71; refine (inRange_any).mono ?_; rintro e w' ⟨rfl, rfl⟩)
      go_ret
      exact ⟨RET.out none E0.out _ rfl, rfl⟩
    · have e0 : seekAt size now off 2 = some (size + off) := by unfold seekAt; rw [if_pos hg]; simp [h2]
      have E0 := Lib.hid e0
      clear e0 hg
      go_enter Tryd.func68, Tryd.ntmps68
      go_wp2_with (go_at_call 71; refine (inRange_any).mono ?_; rintro e w' ⟨rfl, rfl⟩)
      go_ret
      exact ⟨RET.out _ E0.out _ rfl, rfl⟩

end Go.Proofs.YtdgfcbnfhengiaaDoor
