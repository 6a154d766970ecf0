/- Contracts of the model's SeekDevice. -/
import Derived.Test.YtdiebkaedjlckaaC1h
namespace Go.Proofs.Ytdiebkaedjlckaa
open Go.ChangeShapes Go.WideShapes Go.ChangeAt Go.RowKit
set_option linter.unusedSimpArgs false
set_option linter.unusedVariables false

set_option maxHeartbeats 1000000 in
theorem goodSeek_any {off wh : Int} {w : World} :
    Calls Try.prog 62 #[.int .i64 off, .int .i64 wh] w fun e w' => e = .returned (.bool (inB off (-60) 60 && inB wh 0 2)) ∧ w = w' := by
  go_enter Try.func62, Try.ntmps62
  go_wp2_with (go_at_call 51; refine (inRange_any).mono ?_; rintro e w' ⟨rfl, rfl⟩)
  all_goals
    go_ret
    refine ⟨ret_bool ?_, rfl⟩
    simp [*]

set_option maxHeartbeats 1000000 in
theorem placeFor_any {off wh now size : Int} {w : World} (hs0 : 0 ≤ size) (hs : size ≤ 60) (hn0 : 0 ≤ now) (hn1 : now ≤ 60) (hg : (inB off (-60) 60 && inB wh 0 2) = true) :
    Calls Try.prog 63 #[.int .i64 size, .int .i64 now, .int .i64 off, .int .i64 wh] w fun e w' => e = .returned (.int .i64 ((seekAt size now off wh).getD (-1))) ∧ w = w' := by
  have hg2 := hg
  simp only [Bool.and_eq_true, inB_iff] at hg2
  obtain ⟨⟨ho1, ho2⟩, hw1, hw2⟩ := hg2
  have ret : ∀ r : Option Int, seekAt size now off wh = r → ∀ a, a = r.getD (-1) → Ending.returned (.int .i64 a) = .returned (.int .i64 ((seekAt size now off wh).getD (-1))) := by
    intro r hr a ha
    rw [hr, ha]
  have RET := Lib.hid ret
  clear ret
  rcases (by omega : wh = 0 ∨ wh = 1 ∨ wh = 2) with rfl | rfl | rfl
  · cases h2 : inB off 0 60
    · have e0 : seekAt size now off 0 = none := by unfold seekAt; rw [if_pos hg]; simp [h2]
      have E0 := Lib.hid e0
      clear e0 hg
      go_enter Try.func63, Try.ntmps63
      go_wp2_with (go_at_call 51; refine (inRange_any).mono ?_; rintro e w' ⟨rfl, rfl⟩)
      go_ret
      exact ⟨RET.out none E0.out _ rfl, rfl⟩
    · have e0 : seekAt size now off 0 = some off := by unfold seekAt; rw [if_pos hg]; simp [h2]
      have E0 := Lib.hid e0
      clear e0 hg
      go_enter Try.func63, Try.ntmps63
      go_wp2_with (go_at_call 51; refine (inRange_any).mono ?_; rintro e w' ⟨rfl, rfl⟩)
      go_ret
      exact ⟨RET.out _ E0.out _ rfl, rfl⟩
  · cases h2 : inB (now + off) 0 60
    · have e0 : seekAt size now off 1 = none := by unfold seekAt; rw [if_pos hg]; simp [h2]
      have E0 := Lib.hid e0
      clear e0 hg
      go_enter Try.func63, Try.ntmps63
      go_wp2_with (go_at_call 51; refine (inRange_any).mono ?_; rintro e w' ⟨rfl, rfl⟩)
      go_ret
      exact ⟨RET.out none E0.out _ rfl, rfl⟩
    · have e0 : seekAt size now off 1 = some (now + off) := by unfold seekAt; rw [if_pos hg]; simp [h2]
      have E0 := Lib.hid e0
      clear e0 hg
      go_enter Try.func63, Try.ntmps63
      go_wp2_with (go_at_call 51; refine (inRange_any).mono ?_; rintro e w' ⟨rfl, rfl⟩)
      go_ret
      exact ⟨RET.out _ E0.out _ rfl, rfl⟩
  · cases h2 : inB (size + off) 0 60
    · have e0 : seekAt size now off 2 = none := by unfold seekAt; rw [if_pos hg]; simp [h2]
      have E0 := Lib.hid e0
      clear e0 hg
      go_enter Try.func63, Try.ntmps63
      go_wp2_with (go_at_call 51; refine (inRange_any).mono ?_; rintro e w' ⟨rfl, rfl⟩)
      go_ret
      exact ⟨RET.out none E0.out _ rfl, rfl⟩
    · have e0 : seekAt size now off 2 = some (size + off) := by unfold seekAt; rw [if_pos hg]; simp [h2]
      have E0 := Lib.hid e0
      clear e0 hg
      go_enter Try.func63, Try.ntmps63
      go_wp2_with (go_at_call 51; refine (inRange_any).mono ?_; rintro e w' ⟨rfl, rfl⟩)
      go_ret
      exact ⟨RET.out _ E0.out _ rfl, rfl⟩

theorem SeekDevice_x {A A' : Option Addr} {n c n' c' : Nat} {D S : List Int} {p q off wh : Int} {w : World} {L L' B B' : Nat} (h : Ints w L B A n D) (h' : Ints w L' B' A' n' S) (hB : B ≤ w.heap.size) (hB' : B' ≤ w.heap.size) (_hc : n ≤ c) (_hc' : n' ≤ c') (_hn : n ≤ 1048576) (_hn' : n' ≤ 1048576) (_h1 : okInt off) (_h2 : okInt wh) :
    Calls Try.prog 55 #[.agg #[.slice (A) n c, .int .i64 (p), .slice (A') n' c', .int .i64 (q)], .int .i64 off, .int .i64 wh] w (Post2 (seekOut D p S q off wh) w) := SeekDevice_any h h' hB hB'
end Go.Proofs.Ytdiebkaedjlckaa
