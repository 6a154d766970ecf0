/- Contracts of SeekDevice, impl's and the model's. -/
import Derived.Test.YtdiebkaedjlckaaC1g
namespace Go.Proofs.Ytdiebkaedjlckaa
open Go.ChangeShapes Go.WideShapes Go.ChangeAt Go.RowKit
set_option linter.unusedSimpArgs false
set_option linter.unusedVariables false

/-- Where a seek goes to: nothing if there is no such place. -/
def seekAt (size now off wh : Int) : Option Int :=
  if inB off (-60) 60 && inB wh 0 2 then
    (if inB (if wh = 1 then now + off else if wh = 2 then size + off else off) 0 60 then some (if wh = 1 then now + off else if wh = 2 then size + off else off) else none)
  else none
def seekOk (r : Option Int) : Bool := r.isSome
def seekTo (r : Option Int) : Int := r.getD 0

set_option maxHeartbeats 1000000 in
theorem isSeek_any {off wh : Int} {w : World} :
    Calls Try.prog 67 #[.int .i64 off, .int .i64 wh] w fun e w' => e = .returned (.bool (inB off (-60) 60 && inB wh 0 2)) ∧ w = w' := by
  cases h1 : inB off (-60) 60
  · go_enter Try.func67, Try.ntmps67
    go_wp2_with (go_at_call 46; refine (isIn_any).mono ?_; rintro e w' ⟨rfl, rfl⟩)
    go_ret
    exact ⟨rfl, rfl⟩
  · go_enter Try.func67, Try.ntmps67
    go_wp2_with (go_at_call 46; refine (isIn_any).mono ?_; rintro e w' ⟨rfl, rfl⟩)
    go_ret
    exact ⟨rfl, rfl⟩
set_option maxHeartbeats 1000000 in
theorem placeFrom_any {off wh now size : Int} {w : World} (hn : okInt now) (hs0 : 0 ≤ size) (hs : size ≤ 60) (hn0 : 0 ≤ now) (hn1 : now ≤ 60) :
    Calls Try.prog 77 #[.int .i64 off, .int .i64 wh, .int .i64 now, .int .i64 size] w fun e w' => e = .returned (.tuple #[.int .i64 (seekTo (seekAt size now off wh)), .bool (seekOk (seekAt size now off wh))]) ∧ w = w' := by
  have ret : ∀ r : Option Int, seekAt size now off wh = r → ∀ a b, a = seekTo r → b = seekOk r → Ending.returned (.tuple #[.int .i64 a, .bool b]) = .returned (.tuple #[.int .i64 (seekTo (seekAt size now off wh)), .bool (seekOk (seekAt size now off wh))]) := by
    intro r hr a b ha hb
    rw [hr, ha, hb]
  have RET := Lib.hid ret
  clear ret
  cases h1 : inB off (-60) 60
  · have e0 : seekAt size now off wh = none := by simp [seekAt, h1]
    have E0 := Lib.hid e0
    clear e0
    go_enter Try.func77, Try.ntmps77
    go_wp2_with (first | (go_at_call 46; refine (isIn_any).mono ?_; rintro e w' ⟨rfl, rfl⟩) | (go_at_call 67; refine (isSeek_any).mono ?_; rintro e w' ⟨rfl, rfl⟩))
    go_ret2
    exact ⟨RET.out none E0.out _ _ rfl rfl, rfl⟩
  · obtain ⟨ho1, ho2⟩ := inB_iff.1 h1
    rcases (by omega : wh = 0 ∨ wh = 1 ∨ wh = 2 ∨ (wh < 0 ∨ 2 < wh)) with rfl | rfl | rfl | hw
    · cases h2 : inB off 0 60
      · have e0 : seekAt size now off 0 = none := by simp [seekAt, inB, h1]; simp [inB] at h1 h2; omega
        have E0 := Lib.hid e0
        clear e0
        have hw0 : inB 0 0 2 = true := by decide
        have hw1 : inB 1 0 2 = true := by decide
        have hw2 : inB 2 0 2 = true := by decide
        go_enter Try.func77, Try.ntmps77
        go_wp2_with (first | (go_at_call 46; refine (isIn_any).mono ?_; rintro e w' ⟨rfl, rfl⟩) | (go_at_call 67; refine (isSeek_any).mono ?_; rintro e w' ⟨rfl, rfl⟩))
        go_ret2
        exact ⟨RET.out none E0.out _ _ rfl rfl, rfl⟩
      · have e0 : seekAt size now off 0 = some off := by simp [seekAt, h1, h2]; decide
        have E0 := Lib.hid e0
        clear e0
        have hw0 : inB 0 0 2 = true := by decide
        have hw1 : inB 1 0 2 = true := by decide
        have hw2 : inB 2 0 2 = true := by decide
        go_enter Try.func77, Try.ntmps77
        go_wp2_with (first | (go_at_call 46; refine (isIn_any).mono ?_; rintro e w' ⟨rfl, rfl⟩) | (go_at_call 67; refine (isSeek_any).mono ?_; rintro e w' ⟨rfl, rfl⟩))
        go_ret2
        exact ⟨RET.out _ E0.out _ _ rfl rfl, rfl⟩
    · cases h2 : inB (off + now) 0 60
      · have e0 : seekAt size now off 1 = none := by simp [seekAt, Int.add_comm now off, h2]
        have E0 := Lib.hid e0
        clear e0
        have hw0 : inB 0 0 2 = true := by decide
        have hw1 : inB 1 0 2 = true := by decide
        have hw2 : inB 2 0 2 = true := by decide
        go_enter Try.func77, Try.ntmps77
        go_wp2_with (first | (go_at_call 46; refine (isIn_any).mono ?_; rintro e w' ⟨rfl, rfl⟩) | (go_at_call 67; refine (isSeek_any).mono ?_; rintro e w' ⟨rfl, rfl⟩))
        go_ret2
        exact ⟨RET.out none E0.out _ _ rfl rfl, rfl⟩
      · have e0 : seekAt size now off 1 = some (off + now) := by simp [seekAt, h1, Int.add_comm now off, h2]; decide
        have E0 := Lib.hid e0
        clear e0
        have hw0 : inB 0 0 2 = true := by decide
        have hw1 : inB 1 0 2 = true := by decide
        have hw2 : inB 2 0 2 = true := by decide
        go_enter Try.func77, Try.ntmps77
        go_wp2_with (first | (go_at_call 46; refine (isIn_any).mono ?_; rintro e w' ⟨rfl, rfl⟩) | (go_at_call 67; refine (isSeek_any).mono ?_; rintro e w' ⟨rfl, rfl⟩))
        go_ret2
        exact ⟨RET.out _ E0.out _ _ rfl rfl, rfl⟩
    · cases h2 : inB (off + size) 0 60
      · have e0 : seekAt size now off 2 = none := by simp [seekAt, Int.add_comm size off, h2]
        have E0 := Lib.hid e0
        clear e0
        have hw0 : inB 0 0 2 = true := by decide
        have hw1 : inB 1 0 2 = true := by decide
        have hw2 : inB 2 0 2 = true := by decide
        go_enter Try.func77, Try.ntmps77
        go_wp2_with (first | (go_at_call 46; refine (isIn_any).mono ?_; rintro e w' ⟨rfl, rfl⟩) | (go_at_call 67; refine (isSeek_any).mono ?_; rintro e w' ⟨rfl, rfl⟩))
        go_ret2
        exact ⟨RET.out none E0.out _ _ rfl rfl, rfl⟩
      · have e0 : seekAt size now off 2 = some (off + size) := by simp [seekAt, h1, Int.add_comm size off, h2]; decide
        have E0 := Lib.hid e0
        clear e0
        have hw0 : inB 0 0 2 = true := by decide
        have hw1 : inB 1 0 2 = true := by decide
        have hw2 : inB 2 0 2 = true := by decide
        go_enter Try.func77, Try.ntmps77
        go_wp2_with (first | (go_at_call 46; refine (isIn_any).mono ?_; rintro e w' ⟨rfl, rfl⟩) | (go_at_call 67; refine (isSeek_any).mono ?_; rintro e w' ⟨rfl, rfl⟩))
        go_ret2
        exact ⟨RET.out _ E0.out _ _ rfl rfl, rfl⟩
    · have h2 : inB wh 0 2 = false := inB_false_iff.2 (fun h => by omega)
      have e0 : seekAt size now off wh = none := by simp [seekAt, h2]
      have E0 := Lib.hid e0
      have w0 : (wh == 0) = false := by simp; omega
      have w1 : (wh == 1) = false := by simp; omega
      have w2 : (wh == 2) = false := by simp; omega
      clear e0
      go_enter Try.func77, Try.ntmps77
      go_wp2_with (first | (go_at_call 46; refine (isIn_any).mono ?_; rintro e w' ⟨rfl, rfl⟩) | (go_at_call 67; refine (isSeek_any).mono ?_; rintro e w' ⟨rfl, rfl⟩))
      go_ret2
      exact ⟨RET.out none E0.out _ _ rfl rfl, rfl⟩

def seekOut (D : List Int) (p : Int) (S : List Int) (q off wh : Int) : Dv × Bool :=
  if validD D p S q && seekOk (seekAt D.length p off wh) then (⟨D, seekTo (seekAt D.length p off wh), S, q⟩, true) else (.zero, false)
theorem seekTo_in {size now off wh : Int} : 0 ≤ seekTo (seekAt size now off wh) ∧ seekTo (seekAt size now off wh) ≤ 60 := by
  unfold seekAt
  generalize (if wh = 1 then now + off else if wh = 2 then size + off else off) = t
  by_cases h1 : (inB off (-60) 60 && inB wh 0 2) = true
  · rw [if_pos h1]
    by_cases h2 : inB t 0 60 = true
    · rw [if_pos h2]; exact inB_iff.1 h2
    · rw [if_neg h2]; decide
  · rw [if_neg h1]; decide
theorem seekOut_le (D : List Int) (p : Int) (S : List Int) (q off wh : Int) : (seekOut D p S q off wh).1.d.length ≤ 60 ∧ (seekOut D p S q off wh).1.s.length ≤ 60 := by
  unfold seekOut
  split
  · have h : validD D p S q = true := by
      have h := ‹(validD D p S q && seekOk (seekAt D.length p off wh)) = true›
      simp at h
      exact h.1
    obtain ⟨hb, hs, _⟩ := validD_iff.1 h
    exact ⟨bytesB_le hb, by show S.length ≤ 60; omega⟩
  · exact ⟨by decide, by decide⟩

set_option maxHeartbeats 2000000 in
theorem SeekDevice_any {A A' : Option Addr} {n c n' c' : Nat} {D S : List Int} {p q off wh : Int} {w : World} {L L' B B' : Nat} (h : Ints w L B A n D) (h' : Ints w L' B' A' n' S) (hB : B ≤ w.heap.size) (hB' : B' ≤ w.heap.size) :
    Calls Try.prog 55 #[.agg #[.slice (A) n c, .int .i64 (p), .slice (A') n' c', .int .i64 (q)], .int .i64 off, .int .i64 wh] w (Post2 (seekOut D p S q off wh) w) := by
  have HL := Lib.hid h.len
  have HL' := Lib.hid h'.len
  have H1 := Lib.hid (fun o => (h.alloc hB (.cells #[.slice (A) n c, .int .i64 (p), .slice (A') n' c', .int .i64 (q)] 25)).alloc (by first | omega | (simp; omega) | (simp; done)) o)
  have H2 := Lib.hid (fun o => (h'.alloc hB' (.cells #[.slice (A) n c, .int .i64 (p), .slice (A') n' c', .int .i64 (q)] 25)).alloc (by first | omega | (simp; omega) | (simp; done)) o)
  have X0 := Lib.hid ((Box.new w 25 [.slice (A) n c, .int .i64 (p), .slice (A') n' c', .int .i64 (q)]).alloc (.cells #[.slice none 0 0, .int .i64 0, .slice none 0 0, .int .i64 0] 25))
  have R0 := Lib.hid (Box.new (w.alloc (.cells #[.slice (A) n c, .int .i64 (p), .slice (A') n' c', .int .i64 (q)] 25)) 25 [.slice none 0 0, .int .i64 0, .slice none 0 0, .int .i64 0])
  (try simp only [World.size_alloc, World.size_setCell, World.size_drew] at R0)
  cases hv : validD D p S q
  · have HO : Hid (seekOut D p S q off wh = (.zero, false)) := by show _ = _; simp [seekOut, hv]
    have HV := Lib.hid hv
    clear hv
    go_enter Try.func55, Try.ntmps55
    go_wp2_with fail
    refine (ValidDevice_any (H1.out _) (H2.out _) (by first | omega | (simp; omega) | (simp; done)) (by first | omega | (simp; omega) | (simp; done))).mono ?_
    rintro e w1 ⟨rfl, hb1⟩
    rw [HV.out]
    (try simp only [World.size_alloc, World.size_setCell, World.size_drew] at hb1)
    have HB1 := Lib.hid hb1
    clear hb1
    have R1 := Lib.hid (R0.out.below HB1.out (by omega))
    have x0 := (R1.out.2 0 _ rfl).1; have x1 := (R1.out.2 1 _ rfl).1; have x2 := (R1.out.2 2 _ rfl).1; have x3 := (R1.out.2 3 _ rfl).1
    have f0 := (R1.out.2 0 _ rfl).2; have f1 := (R1.out.2 1 _ rfl).2; have f2 := (R1.out.2 2 _ rfl).2; have f3 := (R1.out.2 3 _ rfl).2
    go_wp2
    refine bodyPost_ret (v := .tuple #[.agg #[.slice none 0 0, .int .i64 0, .slice none 0 0, .int .i64 0], .bool false]) (by simp [results, Try.results55, go_sem, x0, x1, x2, x3, f0, f1, f2, f3]) rfl ?_
    rw [HO.out]
    refine Post2.zero ?_
    (repeat (with_reducible refine below_set ?_ (by omega) _))
    exact below_step HB1.out (by go_grown) (by first | omega | (simp; omega) | (simp; done))
  · obtain ⟨hbD, hS12, _, ⟨hp0, hp1⟩, hq0, hq1⟩ := validD_iff.1 hv
    have hn60 : n ≤ 60 := by rw [HL.out]; exact bytesB_le hbD
    have hn12 : n' ≤ 12 := by rw [HL'.out]; exact hS12
    have hln : ((D.length : Nat) : Int) = (n : Int) := by have := HL.out; omega
    have HLN := Lib.hid hln
    have HV := Lib.hid hv
    obtain ⟨r, hr⟩ : ∃ r, seekAt D.length p off wh = r := ⟨_, rfl⟩
    have hin := seekTo_in (size := D.length) (now := p) (off := off) (wh := wh)
    have HO : Hid (seekOut D p S q off wh = if seekOk r then (⟨D, seekTo r, S, q⟩, true) else (.zero, false)) := by show _ = _; simp [seekOut, hv, hr]
    rw [hr] at hin
    have hcall := fun wx : World => placeFrom_any (off := off) (wh := wh) (now := p) (size := n) (w := wx) (by unfold okInt; omega) (by omega) (by omega) hp0 hp1
    rw [← hln] at hcall
    rw [hr] at hcall
    have HC : Hid (∀ wx : World, Calls Try.prog 77 #[.int .i64 off, .int .i64 wh, .int .i64 p, .int .i64 n] wx fun e w' => e = .returned (.tuple #[.int .i64 (seekTo r), .bool (seekOk r)]) ∧ wx = w') := by
      show ∀ _, _
      rw [← hln]
      exact hcall
    clear hcall hv hbD hS12 hln hr
    go_enter Try.func55, Try.ntmps55
    go_wp2_with fail
    refine (ValidDevice_any (H1.out _) (H2.out _) (by first | omega | (simp; omega) | (simp; done)) (by first | omega | (simp; omega) | (simp; done))).mono ?_
    rintro e w1 ⟨rfl, hb1⟩
    rw [HV.out]
    (try simp only [World.size_alloc, World.size_setCell, World.size_drew] at hb1)
    have HB1 := Lib.hid hb1
    clear hb1
    have s1 := HB1.out.size
    (try simp only [World.size_alloc, World.size_setCell, World.size_drew] at s1)
    have X1 := Lib.hid (X0.out.below HB1.out (by omega))
    have R1 := Lib.hid (R0.out.below HB1.out (by omega))
    have I1 := Lib.hid ((H1.out _).below HB1.out (by omega))
    have I2 := Lib.hid ((H2.out _).below HB1.out (by omega))
    have x0 := (X1.out.2 0 _ rfl).1; have x1 := (X1.out.2 1 _ rfl).1; have x2 := (X1.out.2 2 _ rfl).1; have x3 := (X1.out.2 3 _ rfl).1
    go_wp2_with fail
    refine (HC.out _).mono ?_
    rintro e w1' ⟨rfl, rfl⟩
    cases hok : seekOk r
    · clear x0 x1 x2 x3
      have x0 := (R1.out.2 0 _ rfl).1; have x1 := (R1.out.2 1 _ rfl).1; have x2 := (R1.out.2 2 _ rfl).1; have x3 := (R1.out.2 3 _ rfl).1
      have f0 := (R1.out.2 0 _ rfl).2; have f1 := (R1.out.2 1 _ rfl).2; have f2 := (R1.out.2 2 _ rfl).2; have f3 := (R1.out.2 3 _ rfl).2
      go_wp2
      refine bodyPost_ret (v := .tuple #[.agg #[.slice none 0 0, .int .i64 0, .slice none 0 0, .int .i64 0], .bool false]) (by simp [results, Try.results55, go_sem, x0, x1, x2, x3, f0, f1, f2, f3]) rfl ?_
      rw [HO.out, hok]
      refine Post2.zero ?_
      (repeat (with_reducible refine below_set ?_ (by omega) _))
      exact below_step HB1.out (by go_grown) (by first | omega | (simp; omega) | (simp; done))
    · go_wp2_with fail
      clear x0 x1 x2 x3
      refine (copyDevice_any I1.out I2.out (by omega) (by omega) (by omega) (by omega) (by unfold okInt; omega) (by unfold okInt; omega)).mono ?_
      rintro e w2 ⟨A2, n2, c2, A2', n2', c2', rfl, ⟨hc2, hc2'⟩, hb2, hd2, hd2', hap, hp2, hq2⟩
      have HB2 := Lib.hid hb2
      have s2 := hb2.size
      have HD2 := Lib.hid hd2
      have HD2' := Lib.hid hd2'
      have HAP := Lib.hid hap
      have R2 := Lib.hid (R1.out.below hb2 (by omega))
      have E2 := Lib.hid (below_step hb2 (below_step HB1.out (by go_grown) (by first | omega | (simp; omega) | (simp; done)) : Below w.heap.size w w1) (by omega))
      clear hb2 hd2 hd2' hap
      have R3 := Lib.hid (R2.out.alloc (.cells #[.slice (A2) n2 c2, .int .i64 (p), .slice (A2') n2' c2', .int .i64 (q)] 25))
      have Y3 := Lib.hid (Box.new w2 25 [.slice (A2) n2 c2, .int .i64 (p), .slice (A2') n2' c2', .int .i64 (q)])
      have D3 := Lib.hid (HD2.out.alloc (by omega) (.cells #[.slice (A2) n2 c2, .int .i64 (p), .slice (A2') n2' c2', .int .i64 (q)] 25))
      have D3' := Lib.hid (HD2'.out.alloc (by omega) (.cells #[.slice (A2) n2 c2, .int .i64 (p), .slice (A2') n2' c2', .int .i64 (q)] 25))
      have E3 := Lib.hid (E2.out.alloc (by omega) (.cells #[.slice (A2) n2 c2, .int .i64 (p), .slice (A2') n2' c2', .int .i64 (q)] 25))
      have g1 := R2.out.lt
      have x0 := (R2.out.2 0 _ rfl).1; have x1 := (R2.out.2 1 _ rfl).1; have x2 := (R2.out.2 2 _ rfl).1; have x3 := (R2.out.2 3 _ rfl).1
      have f0 := (R2.out.2 0 _ rfl).2; have f1 := (R2.out.2 1 _ rfl).2; have f2 := (R2.out.2 2 _ rfl).2; have f3 := (R2.out.2 3 _ rfl).2
      go_wp2
      refine bodyPost_ret (v := .tuple #[.agg #[.slice (A2) n2 c2, .int .i64 (seekTo r), .slice (A2') n2' c2', .int .i64 (q)], .bool true]) (by simp [results, Try.results55, go_sem, x0, x1, x2, x3, f0, f1, f2, f3, g1]) rfl ?_
      rw [HO.out, hok]
      rw [if_pos rfl]
      refine ⟨_, _, _, _, _, _, rfl, ⟨hc2, hc2'⟩, ?_, ⟨?_, ?_, HAP.out, ?_, hq2⟩⟩
      · refine Below.alloc ?_ (by simp; omega) _
        (repeat (with_reducible refine below_set ?_ (by omega) _))
        exact E2.out
      · simp only [World.size_setCell, World.size_alloc]
        refine Ints.more (lo := w1.heap.size) (hi := w2.heap.size) (Ints.alloc ?_ (by simp) _) (by omega) (by omega)
        (repeat (with_reducible refine Ints.set_ ?_ (by omega) _))
        exact HD2.out
      · simp only [World.size_setCell, World.size_alloc]
        refine Ints.more (lo := w1.heap.size) (hi := w2.heap.size) (Ints.alloc ?_ (by simp) _) (by omega) (by omega)
        (repeat (with_reducible refine Ints.set_ ?_ (by omega) _))
        exact HD2'.out
      · unfold okInt
        show _ ≤ seekTo r ∧ seekTo r ≤ _
        omega
end Go.Proofs.Ytdiebkaedjlckaa
