/- Contracts of SeekDevice, impl's and the model's. -/
import Derived.Test.YtdiebkaedjlckaaDoorC1g
namespace Go.Proofs.YtdiebkaedjlckaaDoor
open Go.ChangeShapes Go.WideShapes Go.ChangeAt Go.RowKit
set_option linter.unusedSimpArgs false
set_option linter.unusedVariables false

/-- Where a seek goes to: nothing if there is no such place. -/
def seekAt (size now off wh : Int) : Option Int :=
  if inB off (-60) 60 && inB wh 0 2 then
    (if inB (if wh = 1 then now + off else if wh = 2 then size + off else off) 0 60 then some (if wh = 1 then now + off else if wh = 2 then size + off else off) else none)
  else none
def seekOk (r : Option Int) : Bool := r.isSome
def seekTo (r : Option Int) : Int := r.getD 0

set_option maxHeartbeats 1000000 in
theorem isSeek_any {off wh : Int} {w : World} :
    Calls Tryd.prog 76 #[.int .i64 off, .int .i64 wh] w fun e w' => e = .returned (.bool (inB off (-60) 60 && inB wh 0 2)) ∧ w = w' := by
  cases h1 : inB off (-60) 60
  · go_enter Tryd.func76, Tryd.ntmps76
    go_wp2_with (go_at_call 64; refine (isIn_any).mono ?_; rintro e w' ⟨rfl, rfl⟩)
    go_ret
    exact ⟨rfl, rfl⟩
  · go_enter Tryd.func76, Tryd.ntmps76
    go_wp2_with (go_at_call 64; refine (isIn_any).mono ?_; rintro e w' ⟨rfl, rfl⟩)
    go_ret
    exact ⟨rfl, rfl⟩
set_option maxHeartbeats 1000000 in
theorem placeFrom_any {off wh now size : Int} {w : World} (hn : okInt now) (hs0 : 0 ≤ size) (hs : size ≤ 60) (hn0 : 0 ≤ now) (hn1 : now ≤ 60) :
    Calls Tryd.prog 131 #[.int .i64 off, .int .i64 wh, .int .i64 now, .int .i64 size] w fun e w' => e = .returned (.tuple #[.int .i64 (seekTo (seekAt size now off wh)), .bool (seekOk (seekAt size now off wh))]) ∧ w = w' := by
  have ret : ∀ r : Option Int, seekAt size now off wh = r → ∀ a b, a = seekTo r → b = seekOk r → Ending.returned (.tuple #[.int .i64 a, .bool b]) = .returned (.tuple #[.int .i64 (seekTo (seekAt size now off wh)), .bool (seekOk (seekAt size now off wh))]) := by
    intro r hr a b ha hb
    rw [hr, ha, hb]
  have RET := Lib.hid ret
  clear ret
  cases h1 : inB off (-60) 60
  · have e0 : seekAt size now off wh = none := by simp [seekAt, h1]
    have E0 := Lib.hid e0
    clear e0
    go_enter Tryd.func131, Tryd.ntmps131
    go_wp2_with (first | (go_at_call 64; refine (isIn_any).mono ?_; rintro e w' ⟨rfl, rfl⟩) | (go_at_call 76; refine (isSeek_any).mono ?_; rintro e w' ⟨rfl, rfl⟩))
    go_ret2
    exact ⟨RET.out none E0.out _ _ rfl rfl, rfl⟩
  · obtain ⟨ho1, ho2⟩ := inB_iff.1 h1
    rcases (by omega : wh = 0 ∨ wh = 1 ∨ wh = 2 ∨ (wh < 0 ∨ 2 < wh)) with rfl | rfl | rfl | hw
    · cases h2 : inB off 0 60
      · have e0 : seekAt size now off 0 = none := by simp [seekAt, inB, h1]; simp [inB] at h1 h2; omega
        have E0 := Lib.hid e0
        clear e0
        have hw0 : inB 0 0 2 = true := by decide
        have hw1 : inB 1 0 2 = true := by decide
        have hw2 : inB 2 0 2 = true := by decide
        go_enter Tryd.func131, Tryd.ntmps131
        go_wp2_with (first | (go_at_call 64; refine (isIn_any).mono ?_; rintro e w' ⟨rfl, rfl⟩) | (go_at_call 76; refine (isSeek_any).mono ?_; rintro e w' ⟨rfl, rfl⟩))
        go_ret2
        exact ⟨RET.out none E0.out _ _ rfl rfl, rfl⟩
      · have e0 : seekAt size now off 0 = some off := by simp [seekAt, h1, h2]; decide
        have E0 := Lib.hid e0
        clear e0
        have hw0 : inB 0 0 2 = true := by decide
        have hw1 : inB 1 0 2 = true := by decide
        have hw2 : inB 2 0 2 = true := by decide
        go_enter Tryd.func131, Tryd.ntmps131
        go_wp2_with (first | (go_at_call 64; refine (isIn_any).mono ?_; rintro e w' ⟨rfl, rfl⟩) | (go_at_call 76; refine (isSeek_any).mono ?_; rintro e w' ⟨rfl, rfl⟩))
        go_ret2
        exact ⟨RET.out _ E0.out _ _ rfl rfl, rfl⟩
    · cases h2 : inB (off + now) 0 60
      · have e0 : seekAt size now off 1 = none := by simp [seekAt, Int.add_comm now off, h2]
        have E0 := Lib.hid e0
        clear e0
        have hw0 : inB 0 0 2 = true := by decide
        have hw1 : inB 1 0 2 = true := by decide
        have hw2 : inB 2 0 2 = true := by decide
        go_enter Tryd.func131, Tryd.ntmps131
        go_wp2_with (first | (go_at_call 64; refine (isIn_any).mono ?_; rintro e w' ⟨rfl, rfl⟩) | (go_at_call 76; refine (isSeek_any).mono ?_; rintro e w' ⟨rfl, rfl⟩))
        go_ret2
        exact ⟨RET.out none E0.out _ _ rfl rfl, rfl⟩
      · have e0 : seekAt size now off 1 = some (off + now) := by simp [seekAt, h1, Int.add_comm now off, h2]; decide
        have E0 := Lib.hid e0
        clear e0
        have hw0 : inB 0 0 2 = true := by decide
        have hw1 : inB 1 0 2 = true := by decide
        have hw2 : inB 2 0 2 = true := by decide
        go_enter Tryd.func131, Tryd.ntmps131
        go_wp2_with (first | (go_at_call 64; refine (isIn_any).mono ?_; rintro e w' ⟨rfl, rfl⟩) | (go_at_call 76; refine (isSeek_any).mono ?_; rintro e w' ⟨rfl, rfl⟩))
        go_ret2
        exact ⟨RET.out _ E0.out _ _ rfl rfl, rfl⟩
    · cases h2 : inB (off + size) 0 60
      · have e0 : seekAt size now off 2 = none := by simp [seekAt, Int.add_comm size off, h2]
        have E0 := Lib.hid e0
        clear e0
        have hw0 : inB 0 0 2 = true := by decide
        have hw1 : inB 1 0 2 = true := by decide
        have hw2 : inB 2 0 2 = true := by decide
        go_enter Tryd.func131, Tryd.ntmps131
        go_wp2_with (first | (go_at_call 64; refine (isIn_any).mono ?_; rintro e w' ⟨rfl, rfl⟩) | (go_at_call 76; refine (isSeek_any).mono ?_; rintro e w' ⟨rfl, rfl⟩))
        go_ret2
        exact ⟨RET.out none E0.out _ _ rfl rfl, rfl⟩
      · have e0 : seekAt size now off 2 = some (off + size) := by simp [seekAt, h1, Int.add_comm size off, h2]; decide
        have E0 := Lib.hid e0
        clear e0
        have hw0 : inB 0 0 2 = true := by decide
        have hw1 : inB 1 0 2 = true := by decide
        have hw2 : inB 2 0 2 = true := by decide
        go_enter Tryd.func131, Tryd.ntmps131
        go_wp2_with (first | (go_at_call 64; refine (isIn_any).mono ?_; rintro e w' ⟨rfl, rfl⟩) | (go_at_call 76; refine (isSeek_any).mono ?_; rintro e w' ⟨rfl, rfl⟩))
        go_ret2
        exact ⟨RET.out _ E0.out _ _ rfl rfl, rfl⟩
    · have h2 : inB wh 0 2 = false := inB_false_iff.2 (fun h => by omega)
      have e0 : seekAt size now off wh = none := by simp [seekAt, h2]
      have E0 := Lib.hid e0
      have w0 : (wh == 0) = false := by simp; omega
      have w1 : (wh == 1) = false := by simp; omega
      have w2 : (wh == 2) = false := by simp; omega
      clear e0
      go_enter Tryd.func131, Tryd.ntmps131
      go_wp2_with (first | (go_at_call 64; refine (isIn_any).mono ?_; rintro e w' ⟨rfl, rfl⟩) | (go_at_call 76; refine (isSeek_any).mono ?_; rintro e w' ⟨rfl, rfl⟩))
      go_ret2
      exact ⟨RET.out none E0.out _ _ rfl rfl, rfl⟩

def seekOut (D : List Int) (p : Int) (S : List Int) (q off wh : Int) : Dv × Bool :=
  if validD D p S q && seekOk (seekAt D.length p off wh) then (⟨D, seekTo (seekAt D.length p off wh), S, q⟩, true) else (.zero, false)
theorem seekTo_in {size now off wh : Int} : 0 ≤ seekTo (seekAt size now off wh) ∧ seekTo (seekAt size now off wh) ≤ 60 := by
  unfold seekAt
  generalize (if wh = 1 then now + off else if wh = 2 then size + off else off) = t
  by_cases h1 : (inB off (-60) 60 && inB wh 0 2) = true
  · rw [if_pos h1]
    by_cases h2 : inB t 0 60 = true
    · rw [if_pos h2]; exact inB_iff.1 h2
    · rw [if_neg h2]; decide
  · rw [if_neg h1]; decide
theorem seekOut_le (D : List Int) (p : Int) (S : List Int) (q off wh : Int) : (seekOut D p S q off wh).1.d.length ≤ 60 ∧ (seekOut D p S q off wh).1.s.length ≤ 60 := by
  unfold seekOut
  split
  · have h : validD D p S q = true := by
      have h := ‹(validD D p S q && seekOk (seekAt D.length p off wh)) = true›
      simp at h
      exact h.1
    obtain ⟨hb, hs, _⟩ := validD_iff.1 h
    exact ⟨bytesB_le hb, by show S.length ≤ 60; omega⟩
  · exact ⟨by decide, by decide⟩

end Go.Proofs.YtdiebkaedjlckaaDoor
