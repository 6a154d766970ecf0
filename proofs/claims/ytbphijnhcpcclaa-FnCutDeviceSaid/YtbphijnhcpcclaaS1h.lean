/- Contracts of the model's SeekDevice. -/
import Derived.Test.YtbphijnhcpcclaaC1h
namespace Go.Proofs.Ytbphijnhcpcclaa
open Go.ChangeShapes Go.WideShapes Go.ChangeAt Go.RowKit
set_option linter.unusedSimpArgs false
set_option linter.unusedVariables false

set_option maxHeartbeats 1000000 in
theorem goodSeek_any {off wh : Int} {w : World} :
    Calls Try.prog 58 #[.int .i64 off, .int .i64 wh] w fun e w' => e = .returned (.bool (inB off (-60) 60 && inB wh 0 2)) ∧ w = w' := by
  go_enter Try.func58, Try.ntmps58
  go_wp2_with (go_at_call 53; refine (inRange_any).mono ?_; rintro e w' ⟨rfl, rfl⟩)
  all_goals
    go_ret
    refine ⟨ret_bool ?_, rfl⟩
    simp [*]

set_option maxHeartbeats 1000000 in
theorem placeFor_any {off wh now size : Int} {w : World} (hs0 : 0 ≤ size) (hs : size ≤ 60) (hn0 : 0 ≤ now) (hn1 : now ≤ 60) (hg : (inB off (-60) 60 && inB wh 0 2) = true) :
    Calls Try.prog 59 #[.int .i64 size, .int .i64 now, .int .i64 off, .int .i64 wh] w fun e w' => e = .returned (.int .i64 ((seekAt size now off wh).getD (-1))) ∧ w = w' := by
  have hg2 := hg
  simp only [Bool.and_eq_true, inB_iff] at hg2
  obtain ⟨⟨ho1, ho2⟩, hw1, hw2⟩ := hg2
  have ret : ∀ r : Option Int, seekAt size now off wh = r → ∀ a, a = r.getD (-1) → Ending.returned (.int .i64 a) = .returned (.int .i64 ((seekAt size now off wh).getD (-1))) := by
    intro r hr a ha
    rw [hr, ha]
  have RET := Lib.hid ret
  clear ret
  rcases (by omega : wh = 0 ∨ wh = 1 ∨ wh = 2) with rfl | rfl | rfl
  · cases h2 : inB off 0 60
    · have e0 : seekAt size now off 0 = none := by unfold seekAt; rw [if_pos hg]; simp [h2]
      have E0 := Lib.hid e0
      clear e0 hg
      go_enter Try.func59, Try.ntmps59
      go_wp2_with (go_at_call 53; refine (inRange_any).mono ?_; rintro e w' ⟨rfl, rfl⟩)
      go_ret
      exact ⟨RET.out none E0.out _ rfl, rfl⟩
    · have e0 : seekAt size now off 0 = some off := by unfold seekAt; rw [if_pos hg]; simp [h2]
      have E0 := Lib.hid e0
      clear e0 hg
      go_enter Try.func59, Try.ntmps59
      go_wp2_with (go_at_call 53; refine (inRange_any).mono ?_; rintro e w' ⟨rfl, rfl⟩)
      go_ret
      exact ⟨RET.out _ E0.out _ rfl, rfl⟩
  · cases h2 : inB (now + off) 0 60
    · have e0 : seekAt size now off 1 = none := by unfold seekAt; rw [if_pos hg]; simp [h2]
      have E0 := Lib.hid e0
      clear e0 hg
      go_enter Try.func59, Try.ntmps59
      go_wp2_with (go_at_call 53; refine (inRange_any).mono ?_; rintro e w' ⟨rfl, rfl⟩)
      go_ret
      exact ⟨RET.out none E0.out _ rfl, rfl⟩
    · have e0 : seekAt size now off 1 = some (now + off) := by unfold seekAt; rw [if_pos hg]; simp [h2]
      have E0 := Lib.hid e0
      clear e0 hg
      go_enter Try.func59, Try.ntmps59
      go_wp2_with (go_at_call 53; refine (inRange_any).mono ?_; rintro e w' ⟨rfl, rfl⟩)
      go_ret
      exact ⟨RET.out _ E0.out _ rfl, rfl⟩
  · cases h2 : inB (size + off) 0 60
    · have e0 : seekAt size now off 2 = none := by unfold seekAt; rw [if_pos hg]; simp [h2]
      have E0 := Lib.hid e0
      clear e0 hg
      go_enter Try.func59, Try.ntmps59
      go_wp2_with (go_at_call 53; refine (inRange_any).mono ?_; rintro e w' ⟨rfl, rfl⟩)
      go_ret
      exact ⟨RET.out none E0.out _ rfl, rfl⟩
    · have e0 : seekAt size now off 2 = some (size + off) := by unfold seekAt; rw [if_pos hg]; simp [h2]
      have E0 := Lib.hid e0
      clear e0 hg
      go_enter Try.func59, Try.ntmps59
      go_wp2_with (go_at_call 53; refine (inRange_any).mono ?_; rintro e w' ⟨rfl, rfl⟩)
      go_ret
      exact ⟨RET.out _ E0.out _ rfl, rfl⟩

set_option maxHeartbeats 2000000 in
theorem SSeekDevice_any {A A' : Option Addr} {n c n' c' : Nat} {D S : List Int} {p q off wh : Int} {w : World} {L L' B B' : Nat} (h : Ints w L B A n D) (h' : Ints w L' B' A' n' S) (hB : B ≤ w.heap.size) (hB' : B' ≤ w.heap.size) :
    Calls Try.prog 21 #[.agg #[.slice (A) n c, .int .i64 (p), .slice (A') n' c', .int .i64 (q)], .int .i64 off, .int .i64 wh] w (Post2 (seekOut D p S q off wh) w) := by
  have HL := Lib.hid h.len
  have HL' := Lib.hid h'.len
  have H1 := Lib.hid (fun o => (h.alloc hB (.cells #[.slice (A) n c, .int .i64 (p), .slice (A') n' c', .int .i64 (q)] 27)).alloc (by first | omega | (simp; omega) | (simp; done)) o)
  have H2 := Lib.hid (fun o => (h'.alloc hB' (.cells #[.slice (A) n c, .int .i64 (p), .slice (A') n' c', .int .i64 (q)] 27)).alloc (by first | omega | (simp; omega) | (simp; done)) o)
  have X0 := Lib.hid ((Box.new w 27 [.slice (A) n c, .int .i64 (p), .slice (A') n' c', .int .i64 (q)]).alloc (.cells #[.slice none 0 0, .int .i64 0, .slice none 0 0, .int .i64 0] 27))
  have R0 := Lib.hid (Box.new (w.alloc (.cells #[.slice (A) n c, .int .i64 (p), .slice (A') n' c', .int .i64 (q)] 27)) 27 [.slice none 0 0, .int .i64 0, .slice none 0 0, .int .i64 0])
  (try simp only [World.size_alloc, World.size_setCell, World.size_drew] at R0)
  by_cases hv : (validD D p S q && (inB off (-60) 60 && inB wh 0 2)) = true
  · obtain ⟨hvv, hg⟩ := Bool.and_eq_true_iff.1 hv
    obtain ⟨hbD, hS12, _, ⟨hp0, hp1⟩, hq0, hq1⟩ := validD_iff.1 hvv
    have hn60 : n ≤ 60 := by rw [HL.out]; exact bytesB_le hbD
    have hn12 : n' ≤ 12 := by rw [HL'.out]; exact hS12
    have hln : ((D.length : Nat) : Int) = (n : Int) := by have := HL.out; omega
    obtain ⟨r, hr⟩ : ∃ r, seekAt D.length p off wh = r := ⟨_, rfl⟩
    have hin := seekTo_in (size := D.length) (now := p) (off := off) (wh := wh)
    have HO : Hid (seekOut D p S q off wh = if seekOk r then (⟨D, seekTo r, S, q⟩, true) else (.zero, false)) := by show _ = _; simp [seekOut, hvv, hr]
    rw [hr] at hin
    have hcall := fun wx : World => placeFor_any (off := off) (wh := wh) (now := p) (size := n) (w := wx) (by omega) (by omega) hp0 hp1 hg
    have HC : Hid (∀ wx : World, Calls Try.prog 59 #[.int .i64 n, .int .i64 p, .int .i64 off, .int .i64 wh] wx fun e w' => e = .returned (.int .i64 (r.getD (-1))) ∧ wx = w') := by
      show ∀ _, _
      rw [← hr, hln]
      exact hcall
    have HV := Lib.hid hvv
    have HG := Lib.hid hg
    clear hcall hv hvv hg hbD hS12 hln hr
    go_enter Try.func21, Try.ntmps21
    go_wp2_with fail
    refine (validDevice_any (H1.out _) (H2.out _) (by first | omega | (simp; omega) | (simp; done)) (by first | omega | (simp; omega) | (simp; done))).mono ?_
    rintro e w1 ⟨rfl, hb1⟩
    rw [HV.out]
    (try simp only [World.size_alloc, World.size_setCell, World.size_drew] at hb1)
    have HB1 := Lib.hid hb1
    clear hb1
    have s1 := HB1.out.size
    (try simp only [World.size_alloc, World.size_setCell, World.size_drew] at s1)
    have X1 := Lib.hid (X0.out.below HB1.out (by omega))
    have R1 := Lib.hid (R0.out.below HB1.out (by omega))
    have I1 := Lib.hid ((H1.out _).below HB1.out (by omega))
    have I2 := Lib.hid ((H2.out _).below HB1.out (by omega))
    have x0 := (X1.out.2 0 _ rfl).1; have x1 := (X1.out.2 1 _ rfl).1; have x2 := (X1.out.2 2 _ rfl).1; have x3 := (X1.out.2 3 _ rfl).1
    go_wp2_with fail
    refine goodSeek_any.mono ?_
    rintro e w1' ⟨rfl, rfl⟩
    rw [HG.out]
    go_wp2_with fail
    refine (HC.out _).mono ?_
    rintro e w1' ⟨rfl, rfl⟩
    cases r with
    | none =>
      clear x0 x1 x2 x3
      have x0 := (R1.out.2 0 _ rfl).1; have x1 := (R1.out.2 1 _ rfl).1; have x2 := (R1.out.2 2 _ rfl).1; have x3 := (R1.out.2 3 _ rfl).1
      have f0 := (R1.out.2 0 _ rfl).2; have f1 := (R1.out.2 1 _ rfl).2; have f2 := (R1.out.2 2 _ rfl).2; have f3 := (R1.out.2 3 _ rfl).2
      go_wp2
      refine bodyPost_ret (v := .tuple #[.agg #[.slice none 0 0, .int .i64 0, .slice none 0 0, .int .i64 0], .bool false]) (by simp [results, Try.results21, go_sem, x0, x1, x2, x3, f0, f1, f2, f3]) rfl ?_
      rw [HO.out, if_neg (by simp [seekOk])]
      refine Post2.zero ?_
      (repeat (with_reducible refine below_set ?_ (by omega) _))
      exact below_step HB1.out (by go_grown) (by first | omega | (simp; omega) | (simp; done))
    | some t =>
      have ht0 : 0 ≤ t := hin.1
      have ht1 : t ≤ 60 := hin.2
      have ht2 : (Option.some t).getD (-1) = t := rfl
      rw [ht2]
      clear ht2 hin
      go_wp2_with fail
      clear x0 x1 x2 x3
      refine (sCopyDevice_any I1.out I2.out (by omega) (by omega) (by omega) (by omega) (by unfold okInt; omega) (by unfold okInt; omega)).mono ?_
      rintro e w2 ⟨A2, n2, c2, A2', n2', c2', rfl, ⟨hc2, hc2'⟩, hb2, hd2, hd2', hap, hp2, hq2⟩
      have HB2 := Lib.hid hb2
      have s2 := hb2.size
      have HD2 := Lib.hid hd2
      have HD2' := Lib.hid hd2'
      have HAP := Lib.hid hap
      have R2 := Lib.hid (R1.out.below hb2 (by omega))
      have E2 := Lib.hid (below_step hb2 (below_step HB1.out (by go_grown) (by first | omega | (simp; omega) | (simp; done)) : Below w.heap.size w w1) (by omega))
      clear hb2 hd2 hd2' hap
      have g1 := R2.out.lt
      have x0 := (R2.out.2 0 _ rfl).1; have x1 := (R2.out.2 1 _ rfl).1; have x2 := (R2.out.2 2 _ rfl).1; have x3 := (R2.out.2 3 _ rfl).1
      have f0 := (R2.out.2 0 _ rfl).2; have f1 := (R2.out.2 1 _ rfl).2; have f2 := (R2.out.2 2 _ rfl).2; have f3 := (R2.out.2 3 _ rfl).2
      go_wp2
      refine bodyPost_ret (v := .tuple #[.agg #[.slice (A2) n2 c2, .int .i64 (t), .slice (A2') n2' c2', .int .i64 (q)], .bool true]) (by simp [results, Try.results21, go_sem, x0, x1, x2, x3, f0, f1, f2, f3, g1]) rfl ?_
      rw [HO.out, if_pos (by simp [seekOk])]
      refine ⟨_, _, _, _, _, _, rfl, ⟨hc2, hc2'⟩, ?_, ⟨?_, ?_, HAP.out, ?_, hq2⟩⟩
      · refine Below.alloc ?_ (by simp; omega) _
        (repeat (with_reducible refine below_set ?_ (by omega) _))
        exact E2.out
      · simp only [World.size_setCell, World.size_alloc]
        refine Ints.more (lo := w1.heap.size) (hi := w2.heap.size) (Ints.alloc ?_ (by simp) _) (by omega) (by omega)
        (repeat (with_reducible refine Ints.set_ ?_ (by omega) _))
        exact HD2.out
      · simp only [World.size_setCell, World.size_alloc]
        refine Ints.more (lo := w1.heap.size) (hi := w2.heap.size) (Ints.alloc ?_ (by simp) _) (by omega) (by omega)
        (repeat (with_reducible refine Ints.set_ ?_ (by omega) _))
        exact HD2'.out
      · unfold okInt
        show _ ≤ t ∧ t ≤ _
        omega
  · have HO : Hid (seekOut D p S q off wh = (.zero, false)) := by
      show _ = _
      cases h1 : validD D p S q
      · simp [seekOut, h1]
      · have h2 : (inB off (-60) 60 && inB wh 0 2) = false := by rw [h1] at hv; simpa using hv
        simp [seekOut, seekAt, h2, seekOk]
    cases h1 : validD D p S q
    · have HV := Lib.hid h1
      clear h1 hv
      go_enter Try.func21, Try.ntmps21
      go_wp2_with fail
      refine (validDevice_any (H1.out _) (H2.out _) (by first | omega | (simp; omega) | (simp; done)) (by first | omega | (simp; omega) | (simp; done))).mono ?_
      rintro e w1 ⟨rfl, hb1⟩
      rw [HV.out]
      (try simp only [World.size_alloc, World.size_setCell, World.size_drew] at hb1)
      have HB1 := Lib.hid hb1
      clear hb1
      have R1 := Lib.hid (R0.out.below HB1.out (by omega))
      have x0 := (R1.out.2 0 _ rfl).1; have x1 := (R1.out.2 1 _ rfl).1; have x2 := (R1.out.2 2 _ rfl).1; have x3 := (R1.out.2 3 _ rfl).1
      have f0 := (R1.out.2 0 _ rfl).2; have f1 := (R1.out.2 1 _ rfl).2; have f2 := (R1.out.2 2 _ rfl).2; have f3 := (R1.out.2 3 _ rfl).2
      go_wp2
      refine bodyPost_ret (v := .tuple #[.agg #[.slice none 0 0, .int .i64 0, .slice none 0 0, .int .i64 0], .bool false]) (by simp [results, Try.results21, go_sem, x0, x1, x2, x3, f0, f1, f2, f3]) rfl ?_
      rw [HO.out]
      refine Post2.zero ?_
      (repeat (with_reducible refine below_set ?_ (by omega) _))
      exact below_step HB1.out (by go_grown) (by first | omega | (simp; omega) | (simp; done))
    · have h2 : (inB off (-60) 60 && inB wh 0 2) = false := by rw [h1] at hv; simpa using hv
      have HV := Lib.hid h1
      have HG := Lib.hid h2
      clear h1 h2 hv
      go_enter Try.func21, Try.ntmps21
      go_wp2_with fail
      refine (validDevice_any (H1.out _) (H2.out _) (by first | omega | (simp; omega) | (simp; done)) (by first | omega | (simp; omega) | (simp; done))).mono ?_
      rintro e w1 ⟨rfl, hb1⟩
      rw [HV.out]
      (try simp only [World.size_alloc, World.size_setCell, World.size_drew] at hb1)
      have HB1 := Lib.hid hb1
      clear hb1
      have R1 := Lib.hid (R0.out.below HB1.out (by omega))
      have x0 := (R1.out.2 0 _ rfl).1; have x1 := (R1.out.2 1 _ rfl).1; have x2 := (R1.out.2 2 _ rfl).1; have x3 := (R1.out.2 3 _ rfl).1
      have f0 := (R1.out.2 0 _ rfl).2; have f1 := (R1.out.2 1 _ rfl).2; have f2 := (R1.out.2 2 _ rfl).2; have f3 := (R1.out.2 3 _ rfl).2
      go_wp2_with fail
      refine goodSeek_any.mono ?_
      rintro e w1' ⟨rfl, rfl⟩
      rw [HG.out]
      go_wp2
      refine bodyPost_ret (v := .tuple #[.agg #[.slice none 0 0, .int .i64 0, .slice none 0 0, .int .i64 0], .bool false]) (by simp [results, Try.results21, go_sem, x0, x1, x2, x3, f0, f1, f2, f3]) rfl ?_
      rw [HO.out]
      refine Post2.zero ?_
      (repeat (with_reducible refine below_set ?_ (by omega) _))
      exact below_step HB1.out (by go_grown) (by first | omega | (simp; omega) | (simp; done))
theorem SSeekDevice_x {A A' : Option Addr} {n c n' c' : Nat} {D S : List Int} {p q off wh : Int} {w : World} {L L' B B' : Nat} (h : Ints w L B A n D) (h' : Ints w L' B' A' n' S) (hB : B ≤ w.heap.size) (hB' : B' ≤ w.heap.size) (_hc : n ≤ c) (_hc' : n' ≤ c') (_hn : n ≤ 1048576) (_hn' : n' ≤ 1048576) (_h1 : okInt off) (_h2 : okInt wh) :
    Calls Try.prog 21 #[.agg #[.slice (A) n c, .int .i64 (p), .slice (A') n' c', .int .i64 (q)], .int .i64 off, .int .i64 wh] w (Post2 (seekOut D p S q off wh) w) := SSeekDevice_any h h' hB hB'
theorem SeekDevice_x {A A' : Option Addr} {n c n' c' : Nat} {D S : List Int} {p q off wh : Int} {w : World} {L L' B B' : Nat} (h : Ints w L B A n D) (h' : Ints w L' B' A' n' S) (hB : B ≤ w.heap.size) (hB' : B' ≤ w.heap.size) (_hc : n ≤ c) (_hc' : n' ≤ c') (_hn : n ≤ 1048576) (_hn' : n' ≤ 1048576) (_h1 : okInt off) (_h2 : okInt wh) :
    Calls Try.prog 20 #[.agg #[.slice (A) n c, .int .i64 (p), .slice (A') n' c', .int .i64 (q)], .int .i64 off, .int .i64 wh] w (Post2 (seekOut D p S q off wh) w) := SeekDevice_any h h' hB hB'
end Go.Proofs.Ytbphijnhcpcclaa
